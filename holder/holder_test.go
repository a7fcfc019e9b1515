package holder_test

import (
	"math"
	"math/rand"
	"slices"
	"testing"

	"sortition/api"
	"sortition/epoch"
	"sortition/group"
	"sortition/holder"
	"sortition/limb"
	"sortition/sample"
	"sortition/share"
)

const top = math.MaxUint64

func little(t *testing.T) *group.Group {
	t.Helper()
	g, e := group.New(sample.Small())
	if e != api.OK {
		t.Fatal(e)
	}
	return g
}

func smalls(l ...uint64) []api.Nat {
	var out []api.Nat
	for _, n := range l {
		out = append(out, limb.Small(n))
	}
	return out
}

// config has windows of one height each, so that the phase is at and one.
func config(t, slots int) api.Config {
	return api.Config{T: t, Slots: slots, Deal: 1, Ack: 1, Open: 1, Reveal: 1}
}

// Heights of each phase.
const (
	atDeal = iota
	atAck
	atOpen
	atReveal
	atEnd
)

func made(t *testing.T, c api.Config, counts []int, me int) *holder.Holder {
	t.Helper()
	h, e := holder.New(little(t), c, counts, me)
	if e != api.OK || h == nil {
		t.Fatal(c, counts, me, e)
	}
	return h
}

func piece(slot int, n uint64) api.Piece { return api.Piece{Slot: slot, Share: limb.Small(n)} }

func same(a, b api.Tx) bool {
	return a.Kind == b.Kind && a.From == b.From && a.Dealer == b.Dealer && a.Slot == b.Slot && slices.Equal(a.Commits, b.Commits) && a.Value == b.Value
}

func owes(t *testing.T, h *holder.Holder, s *epoch.State, at int, want ...api.Tx) {
	t.Helper()
	if l := h.Duty(s, at); !slices.EqualFunc(l, want, same) {
		t.Errorf("at %d: %v; want %v", at, l, want)
	}
}

func applies(t *testing.T, s *epoch.State, at int, l ...api.Tx) {
	t.Helper()
	for _, x := range l {
		if e := s.Apply(at, x); e != api.OK {
			t.Errorf("at %d %v: %v", at, x, e)
		}
	}
}

func ack(from, dealer int) api.Tx { return api.Tx{Kind: api.TxAck, From: from, Dealer: dealer} }

func open(from, slot int, n uint64) api.Tx {
	return api.Tx{Kind: api.TxOpen, From: from, Slot: slot, Value: limb.Small(n)}
}

func reveal(from int, n uint64) api.Tx {
	return api.Tx{Kind: api.TxReveal, From: from, Value: limb.Small(n)}
}

func post(from, dealer, slot int, n uint64) api.Tx {
	return api.Tx{Kind: api.TxPost, From: from, Dealer: dealer, Slot: slot, Value: limb.Small(n)}
}

func TestNew(t *testing.T) {
	for i, x := range []struct {
		c      api.Config
		counts []int
		me     int
		e      api.Errno
		mine   []int
	}{
		{config(1, 5), []int{3, 1, 1}, 0, api.OK, []int{0, 1, 2}},
		{config(1, 5), []int{3, 1, 1}, 1, api.OK, []int{3}},
		{config(1, 5), []int{3, 0, 2}, 1, api.OK, nil},
		{config(1, 5), []int{0, 0, 5}, 2, api.OK, []int{0, 1, 2, 3, 4}},
		{config(1, 5), []int{3, 1, 1}, 3, api.ErrArg, nil},
		{config(1, 5), []int{3, 1, 1}, -1, api.ErrArg, nil},
		{config(1, 5), []int{3, 1, 1}, math.MaxInt, api.ErrArg, nil},
		{config(1, 5), []int{3, 1, 1}, math.MinInt, api.ErrArg, nil},
		{config(1, 5), []int{3, 1, 2}, 0, api.ErrArg, nil},
		{config(1, 5), []int{3, 1}, 0, api.ErrArg, nil},
		{config(1, 5), nil, 0, api.ErrArg, nil},
		{config(1, 5), []int{6, -1}, 0, api.ErrArg, nil},
		{config(1, 5), append(make([]int, 40), 5), 0, api.ErrArg, nil},
		{config(1, 1), []int{1}, 0, api.ErrArg, nil},
		{config(1, 41), []int{41}, 0, api.ErrArg, nil},
		{api.Config{T: 1, Slots: 5}, []int{5}, 0, api.ErrArg, nil},
	} {
		before := slices.Clone(x.counts)
		h, e := holder.New(little(t), x.c, x.counts, x.me)
		if e != x.e || (h == nil) != (e != api.OK) || !slices.Equal(x.counts, before) {
			t.Error(i, h, e)
		}
		if h == nil {
			continue
		}
		if !slices.Equal(h.Mine(), x.mine) {
			t.Error(i, h.Mine())
		}
		for dealer := -1; dealer < 5; dealer++ {
			if l := h.Held(dealer); len(l) != 0 {
				t.Error(i, dealer, l)
			}
		}
	}
}

func TestExample(t *testing.T) {
	h := made(t, config(0, 1), []int{1}, 0)
	x, shares, e := h.Deal(smalls(3))
	if !same(x, api.Tx{Kind: 1, Commits: smalls(18)}) || !slices.Equal(shares, smalls(3)) || e != api.OK {
		t.Error(x, shares, e)
	}
	if x, shares, e := h.Deal(smalls(3)); !same(x, api.Tx{}) || len(shares) != 0 || e != api.ErrSame {
		t.Error(x, shares, e)
	}
	s, _ := epoch.New(little(t), config(0, 1), []uint64{1}, 0, api.Digest{})
	owes(t, h, s, atDeal)
	owes(t, h, s, atAck) // its Deal was not applied
	applies(t, s, atDeal, x)
	owes(t, h, s, atDeal)
	owes(t, h, s, atAck, ack(0, 0))
	h = made(t, config(0, 1), []int{1, 0}, 0)
	for i, c := range []struct {
		p api.Piece
		e api.Errno
	}{{piece(0, 4), api.OK}, {piece(0, 5), api.ErrFull}, {piece(0, 4), api.ErrSame}} {
		if e := h.Take(1, c.p); e != c.e {
			t.Error(i, e)
		}
	}
	if l := h.Held(1); !slices.Equal(l, []api.Piece{piece(0, 4)}) {
		t.Error(l)
	}
}

func TestDeals(t *testing.T) {
	g := little(t)
	h := made(t, config(1, 5), []int{3, 0, 2}, 2)
	for _, coeffs := range [][]api.Nat{nil, smalls(1), smalls(1, 2, 3)} {
		if x, shares, e := h.Deal(coeffs); !same(x, api.Tx{}) || len(shares) != 0 || e != api.ErrArg || len(h.Held(2)) != 0 {
			t.Error(coeffs, x, shares, e)
		}
	}
	coeffs := smalls(3, 2)
	x, shares, e := h.Deal(coeffs)
	if !same(x, api.Tx{Kind: 1, From: 2, Commits: share.Commit(g, coeffs)}) || !slices.Equal(shares, smalls(5, 7, 9, 0, 2)) || e != api.OK || !slices.Equal(coeffs, smalls(3, 2)) {
		t.Error(x, shares, e)
	}
	if l := h.Held(2); !slices.Equal(l, []api.Piece{piece(3, 0), piece(4, 2)}) {
		t.Error(l)
	}
	for _, coeffs := range [][]api.Nat{nil, smalls(1), smalls(3, 2)} {
		if _, _, e := h.Deal(coeffs); e != api.ErrSame {
			t.Error(coeffs, e)
		}
	}
	if h.Take(2, piece(3, 0)) != api.ErrSame || h.Take(2, piece(4, 3)) != api.ErrFull || h.Take(2, piece(0, 5)) != api.ErrArg {
		t.Error("its own")
	}
	h = made(t, config(1, 11), []int{11}, 0) // as many as Q
	if x, shares, e := h.Deal(smalls(3, 2)); !same(x, api.Tx{}) || len(shares) != 0 || e != api.ErrArg {
		t.Error(x, shares, e)
	}
	h = made(t, config(0, 2), []int{2, 0}, 1) // who has no slot deals, too
	if _, shares, e := h.Deal(smalls(4)); !slices.Equal(shares, smalls(4, 4)) || e != api.OK || len(h.Held(1)) != 0 {
		t.Error(shares, e, h.Held(1))
	}
}

func TestTakes(t *testing.T) {
	h := made(t, config(1, 6), []int{1, 3, 2}, 1) // slots 1, 2, 3
	for i, c := range []struct {
		dealer int
		p      api.Piece
		e      api.Errno
	}{
		{0, piece(0, 4), api.ErrArg},
		{0, piece(4, 4), api.ErrArg},
		{0, piece(-1, 4), api.ErrArg},
		{0, piece(math.MaxInt, 4), api.ErrArg},
		{0, piece(math.MinInt, 4), api.ErrArg},
		{-1, piece(1, 4), api.ErrArg},
		{256, piece(1, 4), api.ErrArg},
		{math.MaxInt, piece(1, 4), api.ErrArg},
		{math.MinInt, piece(1, 4), api.ErrArg},
		{0, piece(1, 11), api.ErrArg}, // not below Q
		{0, piece(1, 12), api.ErrArg},
		{0, api.Piece{Slot: 1, Share: api.Nat{1, 1}}, api.ErrArg},
		{0, piece(3, 10), api.OK},
		{0, piece(3, 10), api.ErrSame},
		{0, piece(3, 0), api.ErrFull},
		{0, piece(3, 11), api.ErrFull}, // ahead of what is not below Q
		{0, piece(1, 0), api.OK},
		{0, piece(1, 0), api.ErrSame},
		{0, piece(2, 5), api.OK},
		{255, piece(2, 6), api.OK},
		{1, piece(2, 7), api.OK},
	} {
		if e := h.Take(c.dealer, c.p); e != c.e {
			t.Error(i, e)
		}
	}
	for dealer, want := range map[int][]api.Piece{0: {piece(1, 0), piece(2, 5), piece(3, 10)}, 255: {piece(2, 6)}, 1: {piece(2, 7)}, 2: nil, -1: nil, 256: nil} {
		if l := h.Held(dealer); !slices.Equal(l, want) {
			t.Error(dealer, l)
		}
	}
	if e := made(t, config(1, 6), []int{6, 0}, 1).Take(0, piece(0, 1)); e != api.ErrArg {
		t.Error("no slot", e)
	}
}

// trio are three with stakes 3, 1, 1, of which 1 and 2 have dealt 3 + 2 x (5, 7, 9, 0, 2), as who 0 sees it.
func trio(t *testing.T) (*holder.Holder, *epoch.State) {
	t.Helper()
	c := config(1, 5)
	h := made(t, c, []int{3, 1, 1}, 0)
	s, e := epoch.New(little(t), c, []uint64{3, 1, 1}, 0, api.Digest{})
	if e != api.OK || !slices.Equal(s.Counts(), []int{3, 1, 1}) {
		t.Fatal(e, s.Counts())
	}
	for _, who := range []int{1, 2} {
		applies(t, s, atDeal, api.Tx{Kind: 1, From: who, Commits: smalls(18, 16)})
	}
	return h, s
}

func takes(t *testing.T, h *holder.Holder, dealer int, l ...api.Piece) {
	t.Helper()
	for _, p := range l {
		if e := h.Take(dealer, p); e != api.OK {
			t.Error(dealer, p, e)
		}
	}
}

func TestAcks(t *testing.T) {
	h, s := trio(t)
	owes(t, h, s, atAck)
	takes(t, h, 1, piece(0, 5), piece(1, 7))
	owes(t, h, s, atAck) // one lacks
	takes(t, h, 1, piece(2, 9))
	owes(t, h, s, atAck, ack(0, 1))
	takes(t, h, 2, piece(0, 5), piece(1, 7), piece(2, 9))
	takes(t, h, 0, piece(0, 5), piece(1, 7), piece(2, 9)) // 0 has not dealt
	for _, at := range []int{math.MinInt, -1, atDeal} {
		owes(t, h, s, at)
	}
	owes(t, h, s, atAck, ack(0, 1), ack(0, 2))
	applies(t, s, atAck, ack(1, 1), ack(2, 1)) // slots of others
	owes(t, h, s, atAck, ack(0, 1), ack(0, 2))
	applies(t, s, atAck, ack(0, 1))
	owes(t, h, s, atAck, ack(0, 2)) // all is covered

	h, s = trio(t)
	takes(t, h, 1, piece(0, 5), piece(1, 7), piece(2, 8)) // one is wrong
	takes(t, h, 2, piece(0, 5), piece(1, 8), piece(2, 9))
	owes(t, h, s, atAck)

	h, s = trio(t) // some that were opened, which is no matter while one is not
	takes(t, h, 1, piece(0, 5), piece(1, 7), piece(2, 9))
	applies(t, s, atOpen, open(1, 0, 5), open(1, 2, 9))
	owes(t, h, s, atAck, ack(0, 1))
	applies(t, s, atOpen, open(1, 1, 7))
	owes(t, h, s, atAck)

	c := config(1, 5) // who has no slot acks nothing
	h = made(t, c, []int{5, 0}, 1)
	s, _ = epoch.New(little(t), c, []uint64{1, 0}, 0, api.Digest{})
	applies(t, s, atDeal, api.Tx{Kind: 1, From: 0, Commits: smalls(18, 16)})
	owes(t, h, s, atAck)
}

func TestOpens(t *testing.T) {
	h, s := trio(t)
	owes(t, h, s, atOpen) // it has not dealt
	x, _, _ := h.Deal(smalls(3, 2))
	owes(t, h, s, atOpen) // its Deal was not accepted
	applies(t, s, atDeal, x)
	owes(t, h, s, atOpen, open(0, 0, 5), open(0, 1, 7), open(0, 2, 9), open(0, 3, 0), open(0, 4, 2))
	applies(t, s, atAck, ack(1, 0))
	owes(t, h, s, atOpen, open(0, 0, 5), open(0, 1, 7), open(0, 2, 9), open(0, 4, 2))
	owes(t, h, s, atAck, ack(0, 0))
	applies(t, s, atAck, ack(0, 0))
	owes(t, h, s, atOpen, open(0, 4, 2))
	applies(t, s, atOpen, open(0, 4, 2))
	owes(t, h, s, atOpen)

	h, s = trio(t) // another Deal in its name
	h.Deal(smalls(3, 2))
	applies(t, s, atDeal, api.Tx{Kind: 1, From: 0, Commits: smalls(18, 4)})
	owes(t, h, s, atOpen)
	h, s = trio(t) // likewise, but it has dealt nothing
	applies(t, s, atDeal, api.Tx{Kind: 1, From: 0, Commits: smalls(18, 16)})
	owes(t, h, s, atOpen)
}

func TestReveals(t *testing.T) {
	h, s := trio(t)
	x, _, _ := h.Deal([]api.Nat{limb.Small(14), limb.Small(2)}) // 14 is 3 modulo Q
	applies(t, s, atDeal, x)
	applies(t, s, atAck, ack(0, 0), ack(1, 0))
	owes(t, h, s, atReveal) // not qualified
	applies(t, s, atOpen, open(0, 4, 2))
	for _, at := range []int{atDeal, atEnd, math.MaxInt} {
		owes(t, h, s, at)
	}
	owes(t, h, s, atReveal, reveal(0, 3))
	applies(t, s, atReveal, reveal(0, 3))
	owes(t, h, s, atReveal)

	h, s = trio(t) // its secret is known, but it has not revealed
	x, _, _ = h.Deal(smalls(3, 2))
	applies(t, s, atDeal, x)
	for slot, n := range []uint64{5, 7, 9, 0, 2} {
		applies(t, s, atOpen, open(0, slot, n))
	}
	if _, ok := s.Secret(0); !ok {
		t.Error("not known")
	}
	owes(t, h, s, atReveal, reveal(0, 3))

	h, s = trio(t) // another Deal in its name
	h.Deal(smalls(3, 2))
	applies(t, s, atDeal, api.Tx{Kind: 1, From: 0, Commits: smalls(18, 4)})
	for who := range 3 {
		applies(t, s, atAck, ack(who, 0))
	}
	owes(t, h, s, atReveal)

	h, s = trio(t) // likewise, and it has dealt nothing
	applies(t, s, atDeal, api.Tx{Kind: 1, From: 0, Commits: smalls(18, 16)})
	for who := range 3 {
		applies(t, s, atAck, ack(who, 0))
	}
	owes(t, h, s, atReveal)
}

func TestPosts(t *testing.T) {
	h, s := trio(t)
	takes(t, h, 1, piece(2, 9), piece(0, 5))
	takes(t, h, 2, piece(0, 5), piece(1, 8), piece(2, 9)) // one is wrong
	for _, at := range []int{atReveal, atEnd} {
		owes(t, h, s, at) // nobody is qualified
	}
	for who := range 3 {
		applies(t, s, atAck, ack(who, 1))
	}
	owes(t, h, s, atReveal, post(0, 1, 0, 5), post(0, 1, 2, 9))
	for who := range 3 {
		applies(t, s, atAck, ack(who, 2))
	}
	all := []api.Tx{post(0, 1, 0, 5), post(0, 1, 2, 9), post(0, 2, 0, 5), post(0, 2, 2, 9)}
	for _, at := range []int{atReveal, atEnd, math.MaxInt} {
		owes(t, h, s, at, all...)
	}
	for _, at := range []int{atDeal, atOpen, -1} {
		owes(t, h, s, at)
	}
	applies(t, s, atReveal, post(1, 1, 3, 0)) // one alone does not tell the secret
	owes(t, h, s, atReveal, all...)
	applies(t, s, atReveal, reveal(2, 3))
	owes(t, h, s, atReveal, all[:2]...)
	applies(t, s, atEnd, post(0, 1, 0, 5))
	owes(t, h, s, atEnd)
}

// TestNotItsOwn: of its own secret it posts nothing; what it reveals stands ahead of what it posts.
func TestNotItsOwn(t *testing.T) {
	h, s := trio(t)
	x, _, _ := h.Deal(smalls(3, 2))
	applies(t, s, atDeal, x)
	takes(t, h, 1, piece(1, 7))
	for who := range 3 {
		applies(t, s, atAck, ack(who, 0), ack(who, 1))
	}
	owes(t, h, s, atReveal, reveal(0, 3), post(0, 1, 1, 7))
	owes(t, h, s, atEnd, post(0, 1, 1, 7))
}

// TestFollows: where all do their duty, all who deal are qualified, nobody is at fault, and all is known; who is not told its shares has them opened.
func TestFollows(t *testing.T) {
	r := rand.New(rand.NewSource(34))
	g, e := group.New(sample.Large())
	if e != api.OK {
		t.Fatal(e)
	}
	for run := range 8 {
		stakes := []uint64{3, 2, uint64(r.Intn(3)), 1}
		c := config(2, 6)
		s, e := epoch.New(g, c, stakes, 0, api.Digest{})
		if e != api.OK {
			t.Fatal(e)
		}
		var holders []*holder.Holder
		var dealers []int
		for who := range stakes {
			h, e := holder.New(g, c, s.Counts(), who)
			if e != api.OK {
				t.Fatal(e)
			}
			holders = append(holders, h)
		}
		for who, h := range holders {
			if stakes[who] == 0 || who == 3 && run%2 == 0 {
				continue
			}
			x, shares, e := h.Deal([]api.Nat{{r.Uint64(), 0, 0, top}, {r.Uint64()}, {r.Uint64()}})
			if e != api.OK {
				t.Fatal(e)
			}
			applies(t, s, atDeal, x)
			dealers = append(dealers, who)
			for slot, a := range shares {
				for k, other := range holders {
					if slices.Contains(other.Mine(), slot) && k != who && (run < 4 || k != 1) {
						takes(t, other, who, api.Piece{Slot: slot, Share: a})
					}
				}
			}
		}
		for at := atAck; at <= atReveal; at++ {
			for who, h := range holders {
				if at < atReveal || who != 0 || run%3 > 0 { // sometimes one does not reveal
					for _, x := range h.Duty(s, at) {
						s.Apply(at, x)
					}
				}
			}
		}
		want := make([]int, len(stakes))
		if run%3 == 0 {
			want[0] = 4
		}
		if !slices.Equal(s.Qualified(), dealers) || !slices.Equal(s.Faults(), want) || !s.Finished(atEnd) {
			t.Error(run, s.Qualified(), dealers, s.Faults(), s.Finished(atEnd))
		}
	}
}
