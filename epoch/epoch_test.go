package epoch_test

import (
	"bytes"
	"math"
	"slices"
	"testing"

	"sortition/api"
	"sortition/codec"
	"sortition/draw"
	"sortition/epoch"
	"sortition/group"
	"sortition/limb"
	"sortition/sample"
	"sortition/share"
)

const top = math.MaxUint64

var prev = api.Digest{5, 31: 6}

func little(t *testing.T) *group.Group {
	t.Helper()
	g, e := group.New(sample.Small())
	if e != api.OK {
		t.Fatal(e)
	}
	return g
}

func smalls(l ...uint64) []api.Nat {
	var out []api.Nat
	for _, n := range l {
		out = append(out, limb.Small(n))
	}
	return out
}

// config has windows of 2, 1, 1 and 2 heights.
func config(t, slots int) api.Config {
	return api.Config{T: t, Slots: slots, Deal: 2, Ack: 1, Open: 1, Reveal: 2, Penalty: 7}
}

// Heights of each phase of config.
const (
	atDeal   = 0
	atAck    = 2
	atOpen   = 3
	atReveal = 4
	atEnd    = 6
)

func made(t *testing.T, c api.Config, stakes ...uint64) *epoch.State {
	t.Helper()
	s, e := epoch.New(little(t), c, stakes, 3, prev)
	if e != api.OK || s == nil {
		t.Fatal(c, stakes, e)
	}
	return s
}

func applies(t *testing.T, s *epoch.State, at int, x api.Tx, want api.Errno) {
	t.Helper()
	if e := s.Apply(at, x); e != want {
		t.Errorf("at %d %v: %v; want %v", at, x, e, want)
	}
}

func deal(from int, commits ...uint64) api.Tx {
	return api.Tx{Kind: api.TxDeal, From: from, Commits: smalls(commits...)}
}

func ack(from, dealer int) api.Tx { return api.Tx{Kind: api.TxAck, From: from, Dealer: dealer} }

func open(from, slot int, n uint64) api.Tx {
	return api.Tx{Kind: api.TxOpen, From: from, Slot: slot, Value: limb.Small(n)}
}

func reveal(from int, n uint64) api.Tx {
	return api.Tx{Kind: api.TxReveal, From: from, Value: limb.Small(n)}
}

func post(from, dealer, slot int, n uint64) api.Tx {
	return api.Tx{Kind: api.TxPost, From: from, Dealer: dealer, Slot: slot, Value: limb.Small(n)}
}

func TestChecks(t *testing.T) {
	good := config(1, 2)
	with := func(f func(c *api.Config)) api.Config {
		c := good
		f(&c)
		return c
	}
	for i, x := range []struct {
		c api.Config
		e api.Errno
	}{
		{good, api.OK},
		{config(0, 1), api.OK},
		{config(10, 11), api.OK},
		{config(10, 40), api.OK},
		{config(0, 40), api.OK},
		{config(0, 41), api.ErrArg},
		{config(11, 12), api.ErrArg},
		{config(-1, 5), api.ErrArg},
		{config(-1, 0), api.ErrArg},
		{config(0, 0), api.ErrArg},
		{config(1, 1), api.ErrArg},
		{config(5, 4), api.ErrArg},
		{config(math.MaxInt, math.MinInt), api.ErrArg},
		{config(1, math.MaxInt), api.ErrArg},
		{config(math.MinInt, 4), api.ErrArg},
		{with(func(c *api.Config) { c.Penalty = top }), api.OK},
		{with(func(c *api.Config) { c.Penalty = 0 }), api.OK},
		{with(func(c *api.Config) { c.Deal, c.Ack, c.Open, c.Reveal = 50, 50, 50, 50 }), api.OK},
		{with(func(c *api.Config) { c.Deal, c.Ack, c.Open, c.Reveal = 1, 1, 1, 1 }), api.OK},
		{api.Config{}, api.ErrArg},
	} {
		if e := epoch.Check(x.c); e != x.e {
			t.Error(i, e)
		}
	}
	for _, n := range []int{0, -1, 51, math.MinInt, math.MaxInt} {
		for i, f := range []func(c *api.Config){func(c *api.Config) { c.Deal = n }, func(c *api.Config) { c.Ack = n }, func(c *api.Config) { c.Open = n }, func(c *api.Config) { c.Reveal = n }} {
			if e := epoch.Check(with(f)); e != api.ErrArg {
				t.Error(n, i, e)
			}
		}
	}
}

func written(kind, from, dealer, slot uint64, commits []api.Nat, value api.Nat) []byte {
	var w codec.Writer
	for _, n := range []uint64{kind, from, dealer, slot} {
		w.Small(n)
	}
	w.Nats(commits)
	w.Nat(value)
	return w.Out()
}

func same(a, b api.Tx) bool {
	return a.Kind == b.Kind && a.From == b.From && a.Dealer == b.Dealer && a.Slot == b.Slot && slices.Equal(a.Commits, b.Commits) && a.Value == b.Value
}

func TestEncodes(t *testing.T) {
	many := slices.Repeat([]api.Nat{{1, 2, 3, top}}, 21)
	for i, c := range []struct {
		x api.Tx
		e api.Errno
	}{
		{api.Tx{Kind: 1}, api.OK},
		{api.Tx{Kind: 7, From: 255, Dealer: 255, Slot: 255, Commits: many[:20], Value: api.Nat{top, top, top, top}}, api.OK},
		{api.Tx{Kind: 3, From: 1, Dealer: 2, Slot: 4, Commits: many[:1], Value: api.Nat{5}}, api.OK},
		{api.Tx{Kind: 0}, api.ErrArg},
		{api.Tx{Kind: 8}, api.ErrArg},
		{api.Tx{Kind: -1}, api.ErrArg},
		{api.Tx{Kind: math.MaxInt}, api.ErrArg},
		{api.Tx{Kind: math.MinInt}, api.ErrArg},
		{api.Tx{Kind: 1, From: 256}, api.ErrArg},
		{api.Tx{Kind: 1, From: -1}, api.ErrArg},
		{api.Tx{Kind: 1, Dealer: 256}, api.ErrArg},
		{api.Tx{Kind: 1, Dealer: -1}, api.ErrArg},
		{api.Tx{Kind: 1, Slot: 256}, api.ErrArg},
		{api.Tx{Kind: 1, Slot: -1}, api.ErrArg},
		{api.Tx{Kind: 1, Slot: math.MinInt}, api.ErrArg},
		{api.Tx{Kind: 1, Commits: many}, api.ErrArg},
	} {
		b, e := epoch.Encode(c.x)
		if e != c.e {
			t.Error(i, e)
		}
		if e != api.OK {
			if len(b) != 0 {
				t.Error(i, b)
			}
			continue
		}
		if !bytes.Equal(b, written(uint64(c.x.Kind), uint64(c.x.From), uint64(c.x.Dealer), uint64(c.x.Slot), c.x.Commits, c.x.Value)) {
			t.Error(i, b)
		}
		if x, e := epoch.Decode(b); !same(x, c.x) || e != api.OK {
			t.Error(i, x, e)
		}
		for cut := range b {
			if x, e := epoch.Decode(b[:cut]); !same(x, api.Tx{}) || e != api.ErrShort {
				t.Error(i, cut, x, e)
			}
		}
		if x, e := epoch.Decode(append(b, 0)); !same(x, api.Tx{}) || e != api.ErrTail {
			t.Error(i, x, e)
		}
	}
}

func TestDecodeErrors(t *testing.T) {
	many := make([]api.Nat, 21)
	for i, c := range []struct {
		b []byte
		e api.Errno
	}{
		{nil, api.ErrShort},
		{written(0, 1, 1, 1, nil, api.Nat{}), api.ErrShape},
		{written(8, 1, 1, 1, nil, api.Nat{}), api.ErrShape},
		{written(255, 1, 1, 1, nil, api.Nat{}), api.ErrShape},
		{written(256, 1, 1, 1, nil, api.Nat{}), api.ErrLong},
		{written(1, 256, 1, 1, nil, api.Nat{}), api.ErrLong},
		{written(1, 1, 256, 1, nil, api.Nat{}), api.ErrLong},
		{written(1, 1, 1, 256, nil, api.Nat{}), api.ErrLong},
		{written(1, 255, 255, 255, many[:20], api.Nat{}), api.OK},
		{written(1, 1, 1, 1, many, api.Nat{}), api.ErrLong},
		{written(8, 1, 1, 256, nil, api.Nat{}), api.ErrLong}, // ahead of ErrShape
		{append(written(8, 1, 1, 1, nil, api.Nat{}), 1), api.ErrTail},
		{[]byte{1, 0, 1, 1}, api.ErrShape},
		{[]byte{9}, api.ErrShape},
	} {
		x, e := epoch.Decode(c.b)
		if e != c.e || e != api.OK && !same(x, api.Tx{}) {
			t.Error(i, x, e)
		}
	}
}

func TestNew(t *testing.T) {
	g := little(t)
	for i, c := range []struct {
		c      api.Config
		stakes []uint64
		e      api.Errno
	}{
		{config(1, 10), []uint64{1, 2}, api.OK},
		{config(1, 11), []uint64{1, 2}, api.ErrArg}, // not below Q
		{config(1, 12), []uint64{1, 2}, api.ErrArg},
		{config(1, 1), []uint64{1, 2}, api.ErrArg},
		{config(1, 1), nil, api.ErrArg},
		{config(1, 11), nil, api.ErrArg},
		{config(1, 2), nil, api.ErrZero},
		{config(1, 2), []uint64{0, 0}, api.ErrZero},
		{config(1, 2), make([]uint64, 41), api.ErrLong},
		{config(1, 2), slices.Repeat([]uint64{top}, 40), api.OK},
		{config(1, 2), slices.Repeat([]uint64{1}, 41), api.ErrLong},
	} {
		before := slices.Clone(c.stakes)
		s, e := epoch.New(g, c.c, c.stakes, 0, prev)
		if e != c.e || (s == nil) != (e != api.OK) || !slices.Equal(c.stakes, before) {
			t.Error(i, s, e)
		}
	}
	large, e := group.New(sample.Large())
	if e != api.OK {
		t.Fatal(e)
	}
	if s, e := epoch.New(large, config(1, 40), []uint64{1}, 0, prev); s == nil || e != api.OK {
		t.Error(e)
	}
}

func TestNewIsEmpty(t *testing.T) {
	s := made(t, config(1, 5), 5, 3, 2)
	if !slices.Equal(s.Counts(), []int{3, 1, 1}) || len(s.Qualified()) != 0 || !slices.Equal(s.Faults(), []int{0, 0, 0}) {
		t.Error(s.Counts(), s.Qualified(), s.Faults())
	}
	for who := -1; who < 4; who++ {
		n, ok := s.Secret(who)
		if len(s.Commits(who)) != 0 || s.Covered(who, 0) || s.Revealed(who) || n != (api.Nat{}) || ok {
			t.Error(who)
		}
	}
	if d, ok := s.Seed(); d != draw.Seed(3, prev, api.Nat{}, nil) || !ok { // nobody is qualified, so that nothing lacks
		t.Error(d, ok)
	}
	if s.Finished(atEnd-1) || !s.Finished(atEnd) {
		t.Error("Finished")
	}
}

func TestPhases(t *testing.T) {
	c := api.Config{T: 0, Slots: 1, Deal: 1, Ack: 2, Open: 3, Reveal: 50}
	s := made(t, c, 1)
	at := 0
	for i, n := range []int{1, 2, 3, 50} {
		for range n {
			if p := s.Phase(at); p != i+1 {
				t.Error(at, p)
			}
			at++
		}
	}
	for at, want := range map[int]int{-1: 0, math.MinInt: 0, 56: 5, 57: 5, math.MaxInt: 5} {
		if p := s.Phase(at); p != want {
			t.Error(at, p)
		}
	}
}

func TestExample(t *testing.T) {
	c := api.Config{T: 0, Slots: 1, Deal: 1, Ack: 1, Open: 1, Reveal: 1}
	s := made(t, c, 1)
	applies(t, s, 0, deal(0, 18), api.OK)
	applies(t, s, 1, ack(0, 0), api.OK)
	applies(t, s, 3, reveal(0, 4), api.ErrShare)
	applies(t, s, 3, reveal(0, 3), api.OK)
	secret, ok := s.Secret(0)
	if !slices.Equal(s.Qualified(), []int{0}) || secret != limb.Small(3) || !ok || !s.Finished(4) || !slices.Equal(s.Faults(), []int{0}) {
		t.Error(s.Qualified(), secret, ok, s.Finished(4), s.Faults())
	}
}

// TestArguments: what there is not is told ahead of the phase.
func TestArguments(t *testing.T) {
	for _, at := range []int{math.MinInt, -1, atDeal, atAck, atOpen, atReveal, atEnd, math.MaxInt} {
		s := made(t, config(1, 3), 1, 1, 0)
		for i, x := range []api.Tx{
			{Kind: 0}, {Kind: 6}, {Kind: 7}, {Kind: -1}, {Kind: math.MaxInt}, {Kind: math.MinInt},
			deal(-1, 1), deal(3, 1), deal(math.MaxInt, 1), deal(math.MinInt, 1),
			ack(-1, 0), ack(3, 0), ack(0, -1), ack(0, 3), ack(0, math.MaxInt),
			open(-1, 0, 1), open(3, 0, 1), open(0, -1, 1), open(0, 3, 1), open(0, math.MinInt, 1),
			reveal(-1, 1), reveal(3, 1),
			post(-1, 0, 0, 1), post(3, 0, 0, 1), post(0, -1, 0, 1), post(0, 3, 0, 1), post(0, 0, -1, 1), post(0, 0, 3, 1),
		} {
			if e := s.Apply(at, x); e != api.ErrArg {
				t.Error(at, i, x, e)
			}
		}
	}
}

// TestPhasesOfKinds: each kind has its phase; a Post has two. What a kind does not use may be anything.
func TestPhasesOfKinds(t *testing.T) {
	s := made(t, config(1, 3), 1, 1, 1)
	strange := func(x api.Tx, dealer, slot int) api.Tx {
		if x.Kind != api.TxAck && x.Kind != api.TxPost {
			x.Dealer = dealer
		}
		if x.Kind != api.TxOpen && x.Kind != api.TxPost {
			x.Slot = slot
		}
		return x
	}
	for at, phase := range map[int]int{math.MinInt: 0, -1: 0, 0: 1, 1: 1, 2: 2, 3: 3, 4: 4, 5: 4, 6: 5, 7: 5, math.MaxInt: 5} {
		for _, x := range []api.Tx{ack(0, 1), open(0, 1, 1), reveal(0, 1), post(0, 1, 1, 1)} {
			want := api.ErrPhase
			if x.Kind == phase || x.Kind == 5 && phase == 4 {
				want = api.ErrNone // nobody has dealt
			}
			applies(t, s, at, x, want)
			applies(t, s, at, strange(x, -1, 999), want)
			applies(t, s, at, strange(x, 999, -1), want)
		}
		if phase != 1 {
			applies(t, s, at, strange(deal(0, 18, 16), -1, 999), api.ErrPhase)
		}
	}
	applies(t, s, 1, strange(deal(0, 18, 16), -1, 999), api.OK)
}

func TestDeals(t *testing.T) {
	s := made(t, config(1, 4), 3, 0, 2, 1, 1)
	applies(t, s, 0, deal(1, 18, 16), api.ErrNone)
	applies(t, s, 0, deal(1, 18), api.ErrNone) // ahead of its shape
	applies(t, s, 0, deal(0, 18, 16), api.OK)
	applies(t, s, 1, deal(0, 18, 16), api.ErrSame)
	applies(t, s, 1, deal(0, 1, 1), api.ErrSame)
	applies(t, s, 1, deal(0, 1), api.ErrSame)
	for who, commits := range map[int][]uint64{2: {18}, 3: {18, 16, 1}, 4: {18, 5}} {
		applies(t, s, 1, deal(who, commits...), api.ErrShape)
		applies(t, s, 1, deal(who, 18, 16), api.ErrSame) // it was malformed
		applies(t, s, 1, deal(who, commits...), api.ErrSame)
	}
	if !slices.Equal(s.Commits(0), smalls(18, 16)) || !slices.Equal(s.Faults(), []int{3, 0, 1, 1, 1}) {
		t.Error(s.Commits(0), s.Faults())
	}
	for _, who := range []int{-1, 1, 2, 3, 4, 5, math.MinInt, math.MaxInt} {
		if l := s.Commits(who); len(l) != 0 {
			t.Error(who, l)
		}
	}
	s = made(t, config(1, 4), 1, 1, 1)
	for who, commits := range [][]uint64{nil, {0, 18}, {18, 16 + 23}} {
		applies(t, s, 0, deal(who, commits...), api.ErrShape)
	}
	if !slices.Equal(s.Faults(), []int{1, 1, 1}) {
		t.Error(s.Faults())
	}
}

func TestAcks(t *testing.T) {
	s := made(t, config(1, 3), 5, 5, 1, 5, 0) // 2 has a stake, and no slot
	if !slices.Equal(s.Counts(), []int{1, 1, 0, 1, 0}) {
		t.Fatal(s.Counts())
	}
	applies(t, s, 0, deal(0, 18, 16), api.OK)
	applies(t, s, 0, deal(2, 18, 16), api.OK)
	applies(t, s, 0, deal(3, 18), api.ErrShape)
	applies(t, s, 2, ack(0, 1), api.ErrNone) // it has not dealt
	applies(t, s, 2, ack(0, 3), api.ErrNone) // its Deal was malformed
	applies(t, s, 2, ack(2, 0), api.ErrNone)
	applies(t, s, 2, ack(4, 0), api.ErrNone)
	for slot := range 3 {
		if s.Covered(0, slot) {
			t.Error(slot)
		}
	}
	applies(t, s, 2, ack(3, 0), api.OK)
	applies(t, s, 2, ack(3, 0), api.ErrSame)
	applies(t, s, 2, ack(3, 2), api.OK)
	if s.Covered(0, 0) || s.Covered(0, 1) || !s.Covered(0, 2) || !s.Covered(2, 2) || s.Covered(1, 2) {
		t.Error("covered")
	}
	applies(t, s, 2, ack(0, 0), api.OK) // who deals acks, too
	applies(t, s, 2, ack(1, 0), api.OK)
	if !slices.Equal(s.Qualified(), []int{0}) || !slices.Equal(s.Faults(), []int{4, 0, 3, 1, 0}) {
		t.Error(s.Qualified(), s.Faults())
	}
	for _, x := range [][2]int{{-1, 0}, {5, 0}, {0, -1}, {0, 3}, {math.MaxInt, math.MinInt}} {
		if s.Covered(x[0], x[1]) {
			t.Error(x)
		}
	}
}

// TestAckCoversAll: an Ack is for all slots that its owner has.
func TestAckCoversAll(t *testing.T) {
	s := made(t, config(1, 5), 5, 3, 2)
	applies(t, s, 0, deal(1, 18, 16), api.OK)
	applies(t, s, 2, ack(0, 1), api.OK)
	for slot, want := range []bool{true, true, true, false, false} {
		if s.Covered(1, slot) != want {
			t.Error(slot)
		}
	}
}

func TestOpens(t *testing.T) {
	s := made(t, config(1, 4), 2, 1, 1)
	applies(t, s, 0, deal(0, 18, 16), api.OK) // 3 + 2 x: 5, 7, 9, 0
	applies(t, s, 2, ack(0, 0), api.OK)
	applies(t, s, 3, open(1, 2, 9), api.ErrNone)
	applies(t, s, 3, open(0, 2, 9), api.OK)
	applies(t, s, 3, open(0, 2, 9), api.ErrSame)
	applies(t, s, 3, open(0, 2, 8), api.ErrSame)
	applies(t, s, 3, open(0, 0, 5), api.OK) // acked all the same
	if !s.Covered(0, 2) || s.Covered(0, 3) || len(s.Qualified()) != 0 || !slices.Equal(s.Faults(), []int{3, 0, 0}) {
		t.Error(s.Qualified(), s.Faults())
	}
	applies(t, s, 3, open(0, 3, 11), api.ErrShare) // 0, and Q
	applies(t, s, 3, open(0, 3, 0), api.ErrSame)   // it failed
	applies(t, s, 3, open(0, 3, 11), api.ErrSame)
	if s.Covered(0, 3) || len(s.Qualified()) != 0 || !slices.Equal(s.Faults(), []int{2, 0, 0}) {
		t.Error(s.Qualified(), s.Faults())
	}

	s = made(t, config(1, 2), 1, 1)
	applies(t, s, 0, deal(0, 18, 16), api.OK)
	applies(t, s, 0, deal(1, 18, 16), api.OK)
	applies(t, s, 2, ack(0, 0), api.OK)
	applies(t, s, 2, ack(1, 0), api.OK)
	applies(t, s, 3, open(0, 1, 5), api.ErrShare) // acked: it is qualified, and at fault
	applies(t, s, 4, reveal(0, 3), api.OK)
	applies(t, s, 3, open(1, 0, 5), api.OK)
	applies(t, s, 3, open(1, 1, 7), api.OK)
	if !slices.Equal(s.Qualified(), []int{0, 1}) || !slices.Equal(s.Faults(), []int{2, 4}) {
		t.Error(s.Qualified(), s.Faults())
	}
	if n, ok := s.Secret(1); n != limb.Small(3) || !ok { // of what was opened
		t.Error(n, ok)
	}
}

func TestReveals(t *testing.T) {
	s := made(t, config(1, 3), 1, 1, 1)
	applies(t, s, 0, deal(0, 18, 16), api.OK)
	applies(t, s, 0, deal(1, 18, 16), api.OK)
	for who := range 3 {
		applies(t, s, 2, ack(who, 0), api.OK)
	}
	applies(t, s, 2, ack(0, 1), api.OK)
	applies(t, s, 4, reveal(1, 3), api.ErrNone) // not qualified
	applies(t, s, 4, reveal(2, 3), api.ErrNone)
	applies(t, s, 4, reveal(0, 4), api.ErrShare)
	applies(t, s, 4, reveal(0, 14), api.ErrShare)
	if s.Revealed(0) || s.Finished(6) {
		t.Error("revealed")
	}
	if n, ok := s.Secret(0); n != (api.Nat{}) || ok {
		t.Error(n, ok)
	}
	if d, ok := s.Seed(); d != (api.Digest{}) || ok {
		t.Error(d, ok)
	}
	applies(t, s, 5, reveal(0, 3), api.OK)
	applies(t, s, 5, reveal(0, 3), api.ErrSame)
	applies(t, s, 5, reveal(0, 4), api.ErrSame)
	if !s.Revealed(0) || s.Revealed(1) || s.Revealed(-1) || s.Revealed(3) || s.Finished(5) || !s.Finished(6) {
		t.Error("Revealed")
	}
	if n, ok := s.Secret(0); n != limb.Small(3) || !ok {
		t.Error(n, ok)
	}
	if n, ok := s.Secret(1); n != (api.Nat{}) || ok {
		t.Error(n, ok)
	}
	if d, ok := s.Seed(); d != draw.Seed(3, prev, limb.Small(3), []int{0}) || !ok {
		t.Error(d, ok)
	}
	if !slices.Equal(s.Faults(), []int{0, 3, 0}) {
		t.Error(s.Faults())
	}
}

func TestPosts(t *testing.T) {
	s := made(t, config(1, 5), 5, 3, 2) // slots 0, 0, 0, 1, 2
	applies(t, s, 0, deal(0, 18, 16), api.OK)
	applies(t, s, 0, deal(1, 18, 16), api.OK)
	applies(t, s, 2, ack(0, 0), api.OK)
	applies(t, s, 2, ack(1, 0), api.OK)
	applies(t, s, 3, open(0, 4, 2), api.OK) // 3 + 2 by 5
	applies(t, s, 4, post(0, 1, 0, 5), api.ErrNone)
	applies(t, s, 4, post(0, 2, 0, 5), api.ErrNone)
	applies(t, s, 4, post(1, 0, 0, 5), api.ErrNone) // not its slot
	applies(t, s, 4, post(2, 0, 4, 2), api.ErrSame) // it was opened
	applies(t, s, 4, post(2, 0, 4, 3), api.ErrSame)
	applies(t, s, 4, post(1, 0, 3, 1), api.ErrShare)
	if n, ok := s.Secret(0); n != (api.Nat{}) || ok || s.Finished(6) { // one piece of two
		t.Error(n, ok)
	}
	applies(t, s, 5, post(1, 0, 3, 0), api.OK) // what was wrong is not remembered
	applies(t, s, 6, post(1, 0, 3, 0), api.ErrSame)
	applies(t, s, 6, post(1, 0, 3, 1), api.ErrSame)
	if n, ok := s.Secret(0); n != limb.Small(3) || !ok || !s.Finished(6) || s.Finished(5) {
		t.Error(n, ok)
	}
	applies(t, s, 100, post(0, 0, 2, 9), api.OK)
	if n, ok := s.Secret(0); n != limb.Small(3) || !ok {
		t.Error(n, ok)
	}
	if !slices.Equal(s.Faults(), []int{4, 3, 0}) {
		t.Error(s.Faults())
	}
	if d, ok := s.Seed(); d != draw.Seed(3, prev, limb.Small(3), []int{0}) || !ok {
		t.Error(d, ok)
	}
}

// TestSeedOfMany: the secrets are added up, and who is qualified goes into it.
func TestSeedOfMany(t *testing.T) {
	g := little(t)
	s := made(t, config(1, 4), 1, 1, 1, 1)
	coeffs := [][]api.Nat{smalls(9, 2), smalls(8, 1), smalls(10, 10), smalls(1, 1)}
	for who, l := range coeffs {
		applies(t, s, 0, api.Tx{Kind: 1, From: who, Commits: share.Commit(g, l)}, api.OK)
		for k := range 4 {
			if who != 3 || k != 0 {
				applies(t, s, 2, ack(k, who), api.OK)
			}
		}
	}
	for who := range 2 {
		applies(t, s, 4, api.Tx{Kind: 4, From: who, Value: coeffs[who][0]}, api.OK)
	}
	if _, ok := s.Seed(); ok || s.Finished(6) {
		t.Error("one secret lacks")
	}
	for k := range 2 {
		applies(t, s, 4, api.Tx{Kind: 5, From: k, Dealer: 2, Slot: k, Value: share.Value(g, coeffs[2], k)}, api.OK)
	}
	if d, ok := s.Seed(); d != draw.Seed(3, prev, limb.Small((9+8+10)%11), []int{0, 1, 2}) || !ok || !s.Finished(6) {
		t.Error(d, ok)
	}
	if !slices.Equal(s.Qualified(), []int{0, 1, 2}) || !slices.Equal(s.Faults(), []int{0, 0, 4, 3}) {
		t.Error(s.Qualified(), s.Faults())
	}
}
