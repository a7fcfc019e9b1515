package beacon_test

import (
	"math"
	"math/rand"
	"slices"
	"testing"

	"sortition/api"
	"sortition/beacon"
	"sortition/draw"
	"sortition/epoch"
	"sortition/group"
	"sortition/limb"
	"sortition/sample"
	"sortition/share"
	"sortition/stake"
)

const top = math.MaxUint64

var first = api.Digest{5, 31: 6}

func little(t *testing.T) *group.Group {
	t.Helper()
	g, e := group.New(sample.Small())
	if e != api.OK {
		t.Fatal(e)
	}
	return g
}

// config has windows of one height each.
func config(t, slots int, penalty uint64) api.Config {
	return api.Config{T: t, Slots: slots, Deal: 1, Ack: 1, Open: 1, Reveal: 1, Penalty: penalty}
}

func made(t *testing.T, c api.Config, free, bond []uint64, delay uint64) *beacon.Beacon {
	t.Helper()
	b, e := beacon.New(little(t), c, free, bond, delay, first)
	if e != api.OK || b == nil {
		t.Fatal(e)
	}
	return b
}

func bytesOf(t *testing.T, x api.Tx) []byte {
	t.Helper()
	b, e := epoch.Encode(x)
	if e != api.OK {
		t.Fatal(e)
	}
	return b
}

// goes goes through a block of these, all of which are accepted.
func goes(t *testing.T, b *beacon.Beacon, l ...api.Tx) {
	t.Helper()
	var txs [][]byte
	for _, x := range l {
		txs = append(txs, bytesOf(t, x))
	}
	if told := b.Block(txs); !slices.Equal(told, make([]api.Errno, len(l))) {
		t.Error(l, told)
	}
}

func deal(g *group.Group, from int, coeffs ...uint64) api.Tx {
	var l []api.Nat
	for _, n := range coeffs {
		l = append(l, limb.Small(n))
	}
	return api.Tx{Kind: api.TxDeal, From: from, Commits: share.Commit(g, l)}
}

func ack(from, dealer int) api.Tx { return api.Tx{Kind: api.TxAck, From: from, Dealer: dealer} }

func reveal(from int, n uint64) api.Tx {
	return api.Tx{Kind: api.TxReveal, From: from, Value: limb.Small(n)}
}

func post(from, dealer, slot int, n uint64) api.Tx {
	return api.Tx{Kind: api.TxPost, From: from, Dealer: dealer, Slot: slot, Value: limb.Small(n)}
}

func bond(from int, n uint64) api.Tx {
	return api.Tx{Kind: api.TxBond, From: from, Value: limb.Small(n)}
}

func unbond(from int, n uint64) api.Tx {
	return api.Tx{Kind: api.TxUnbond, From: from, Value: limb.Small(n)}
}

func same(a, b beacon.Done) bool {
	return a.Number == b.Number && a.Seed == b.Seed && slices.Equal(a.Qualified, b.Qualified) && slices.Equal(a.Faults, b.Faults) && slices.Equal(a.Stakes, b.Stakes)
}

func did(t *testing.T, b *beacon.Beacon, want ...beacon.Done) {
	t.Helper()
	if got := b.Done(); !slices.EqualFunc(got, want, same) {
		t.Errorf("done: %v; want %v", got, want)
	}
}

func stands(t *testing.T, b *beacon.Beacon, number uint64, at int, seed api.Digest, ends int) {
	t.Helper()
	if b.Number() != number || b.At() != at || b.Seed() != seed || b.Ends() != ends || (b.Epoch() == nil) != (ends == 0) {
		t.Error(b.Number(), b.At(), b.Seed(), b.Ends(), b.Epoch() == nil)
	}
}

func TestNew(t *testing.T) {
	good := config(1, 3, 2)
	for i, x := range []struct {
		c          api.Config
		free, bond []uint64
		delay      uint64
		e          api.Errno
	}{
		{good, []uint64{5, 5}, []uint64{5, 1}, 100, api.OK},
		{good, []uint64{5, 5}, []uint64{0, 1}, 0, api.OK},
		{good, nil, nil, 0, api.ErrLong},
		{good, nil, []uint64{1}, 0, api.ErrLong},
		{good, make([]uint64, 9), nil, 0, api.ErrLong},
		{good, []uint64{5}, []uint64{5}, 101, api.ErrLong},
		{good, []uint64{top, 5}, []uint64{5}, 0, api.ErrOver},
		{good, []uint64{5, 5}, []uint64{5}, 0, api.ErrArg},
		{good, []uint64{5}, []uint64{5, 5}, 0, api.ErrArg},
		{good, []uint64{5}, []uint64{6, 5}, 0, api.ErrArg}, // ahead of ErrFunds
		{good, []uint64{5}, nil, 0, api.ErrArg},
		{good, []uint64{5, 5}, []uint64{5, 6}, 0, api.ErrFunds},
		{good, []uint64{5, 5}, []uint64{top, 0}, 0, api.ErrFunds},
		{config(3, 3, 2), []uint64{5, 5}, []uint64{5, 6}, 0, api.ErrFunds}, // ahead of the epoch's
		{config(3, 3, 2), []uint64{5, 5}, []uint64{5, 5}, 0, api.ErrArg},
		{config(3, 3, 2), []uint64{5, 5}, []uint64{0, 0}, 0, api.ErrArg},
		{config(1, 11, 2), []uint64{5, 5}, []uint64{5, 5}, 0, api.ErrArg},
		{good, []uint64{5, 5}, []uint64{0, 0}, 0, api.ErrZero},
	} {
		freeWas, bondWas := slices.Clone(x.free), slices.Clone(x.bond)
		b, e := beacon.New(little(t), x.c, x.free, x.bond, x.delay, first)
		if e != x.e || (b == nil) != (e != api.OK) || !slices.Equal(x.free, freeWas) || !slices.Equal(x.bond, bondWas) {
			t.Error(i, b, e)
		}
		if b == nil {
			continue
		}
		stands(t, b, 0, 0, first, 4)
		did(t, b)
		for who := range x.free {
			if b.Money().Bonded(who) != x.bond[who] || b.Money().Free(who) != x.free[who]-x.bond[who] {
				t.Error(i, who)
			}
		}
	}
}

func TestExample(t *testing.T) {
	g := little(t)
	b := made(t, config(0, 1, 2), []uint64{9}, []uint64{5}, 1)
	goes(t, b, deal(g, 0, 3))
	goes(t, b, ack(0, 0))
	goes(t, b)
	stands(t, b, 0, 3, first, 1)
	goes(t, b)
	stands(t, b, 0, 4, first, 1) // the secret is not known
	did(t, b)
	goes(t, b, post(0, 0, 0, 3))
	seed := draw.Seed(0, first, limb.Small(3), []int{0})
	did(t, b, beacon.Done{Number: 0, Seed: seed, Qualified: []int{0}, Faults: []int{4}, Stakes: []uint64{5}})
	stands(t, b, 1, 0, seed, 4)
	if m := b.Money(); m.Bonded(0) != 5 || m.Free(0) != 4 || m.Pot() != 0 || m.Treasury() != 0 || m.Epoch() != 1 || m.Total() != 9 {
		t.Error(m)
	}
}

// TestEnds: an epoch without secrets ends behind its phase 4.
func TestEnds(t *testing.T) {
	c := api.Config{T: 0, Slots: 2, Deal: 2, Ack: 3, Open: 1, Reveal: 4}
	b := made(t, c, []uint64{9, 9}, []uint64{5, 4}, 1)
	for at := range 10 {
		stands(t, b, 0, at, first, 10-at)
		goes(t, b)
	}
	seed := draw.Seed(0, first, api.Nat{}, nil)
	stands(t, b, 1, 0, seed, 10)
	did(t, b, beacon.Done{Seed: seed, Faults: []int{0, 0}, Stakes: []uint64{5, 4}})
}

// TestPhases: a Tx is applied at the height that the epoch is at when the block comes.
func TestPhases(t *testing.T) {
	g := little(t)
	b := made(t, config(0, 2, 2), []uint64{9, 9}, []uint64{5, 5}, 1)
	told := b.Block([][]byte{bytesOf(t, ack(0, 0)), bytesOf(t, deal(g, 0, 3)), bytesOf(t, deal(g, 0, 3)), nil, {9}, bytesOf(t, deal(g, 5, 3))})
	if !slices.Equal(told, []api.Errno{api.ErrPhase, api.OK, api.ErrSame, api.ErrShort, api.ErrShape, api.ErrArg}) {
		t.Error(told)
	}
	told = b.Block([][]byte{bytesOf(t, deal(g, 1, 3)), bytesOf(t, ack(0, 0)), bytesOf(t, ack(1, 0))})
	if !slices.Equal(told, []api.Errno{api.ErrPhase, api.OK, api.OK}) {
		t.Error(told)
	}
	if told := b.Block(nil); len(told) != 0 {
		t.Error(told)
	}
	if !slices.Equal(b.Epoch().Qualified(), []int{0}) {
		t.Error(b.Epoch().Qualified())
	}
	goes(t, b, reveal(0, 3))
	seed := draw.Seed(0, first, limb.Small(3), []int{0})
	did(t, b, beacon.Done{Seed: seed, Qualified: []int{0}, Faults: []int{0, 0}, Stakes: []uint64{5, 5}})
	goes(t, b, deal(g, 1, 7)) // the next epoch deals
	goes(t, b, ack(0, 1), ack(1, 1))
	goes(t, b)
	goes(t, b, post(1, 1, 1, 7))
	next := draw.Seed(1, seed, limb.Small(7), []int{1})
	did(t, b, beacon.Done{Seed: seed, Qualified: []int{0}, Faults: []int{0, 0}, Stakes: []uint64{5, 5}},
		beacon.Done{Number: 1, Seed: next, Qualified: []int{1}, Faults: []int{0, 4}, Stakes: []uint64{5 + 1, 3 + 0}}) // 2 by 3 of 8 is 0, and what is left is the treasury's
	if b.Money().Treasury() != 1 || b.Money().Total() != 18 {
		t.Error(b.Money().Treasury())
	}
}

// TestMoney: what is bonded while an epoch lasts changes the next one.
func TestMoney(t *testing.T) {
	b := made(t, config(0, 4, 2), []uint64{9, 9}, []uint64{5, 5}, 0)
	told := b.Block([][]byte{
		bytesOf(t, bond(0, 5)), bytesOf(t, bond(0, 4)), bytesOf(t, unbond(1, 6)), bytesOf(t, unbond(1, 5)), bytesOf(t, bond(2, 0)), bytesOf(t, unbond(255, 0)),
		bytesOf(t, api.Tx{Kind: 6, From: 0, Value: api.Nat{0, 1}}), bytesOf(t, api.Tx{Kind: 7, From: 0, Value: api.Nat{1, 0, 0, 1}}),
		bytesOf(t, api.Tx{Kind: 6, From: 9, Value: api.Nat{0, 0, 1}}), bytesOf(t, api.Tx{Kind: 7, From: 9, Value: api.Nat{top}}), bytesOf(t, api.Tx{Kind: 6, From: 0, Value: api.Nat{top}}),
	})
	want := []api.Errno{api.ErrFunds, api.OK, api.ErrFunds, api.OK, api.ErrArg, api.ErrArg, api.ErrFunds, api.ErrFunds, api.ErrFunds, api.ErrArg, api.ErrFunds}
	if !slices.Equal(told, want) {
		t.Error(told)
	}
	if !slices.Equal(b.Money().Stakes(), []uint64{9, 0}) || b.Money().Waiting(1) != 5 || !slices.Equal(b.Epoch().Counts(), []int{2, 2}) {
		t.Error(b.Money().Stakes(), b.Epoch().Counts())
	}
	for range 3 {
		goes(t, b)
	}
	if !slices.Equal(b.Epoch().Counts(), []int{4, 0}) || b.Money().Waiting(1) != 0 || b.Money().Free(1) != 9 {
		t.Error(b.Epoch().Counts())
	}
	did(t, b, beacon.Done{Seed: b.Seed(), Faults: []int{0, 0}, Stakes: []uint64{9, 0}})
}

// TestFaults: who is at fault forfeits, whatever the fault, and nobody else.
func TestFaults(t *testing.T) {
	g := little(t)
	b := made(t, config(0, 5, 3), []uint64{9, 9, 9, 9, 9}, []uint64{5, 5, 5, 5, 2}, 1)
	spoilt := api.Tx{Kind: 1, From: 0}
	b.Block([][]byte{bytesOf(t, spoilt), bytesOf(t, deal(g, 1, 3)), bytesOf(t, deal(g, 2, 4)), bytesOf(t, deal(g, 3, 5)), bytesOf(t, deal(g, 4, 6))})
	if counts := b.Epoch().Counts(); !slices.Equal(counts, []int{1, 1, 1, 1, 1}) {
		t.Fatal(counts)
	}
	var acks []api.Tx
	for who := range 5 {
		acks = append(acks, ack(who, 1), ack(who, 3), ack(who, 4))
	}
	goes(t, b, acks...)
	b.Block([][]byte{bytesOf(t, api.Tx{Kind: 3, From: 1, Slot: 0, Value: limb.Small(9)})})
	goes(t, b, reveal(1, 3), reveal(3, 5), post(0, 4, 0, 6))
	// 0 dealt what is none, 1 opened wrongly, 2 left slots uncovered, 4 did not reveal, and has but 2.
	seed := draw.Seed(0, first, limb.Small((3+5+6)%11), []int{1, 3, 4})
	did(t, b, beacon.Done{Seed: seed, Qualified: []int{1, 3, 4}, Faults: []int{1, 2, 3, 0, 4}, Stakes: []uint64{2 + 2, 2 + 2, 2 + 2, 5 + 5, 0}}) // of 11, which is the pot
	if b.Money().Treasury() != 0 || b.Money().Total() != 45 || b.Money().Epoch() != 1 {
		t.Error(b.Money().Treasury(), b.Money().Total())
	}
}

// TestEnded: where nobody has a stake there is no epoch, till somebody bonds.
func TestEnded(t *testing.T) {
	g := little(t)
	b := made(t, config(0, 1, 2), []uint64{9, 9}, []uint64{5, 0}, 0)
	goes(t, b, unbond(0, 5))
	for range 3 {
		goes(t, b)
	}
	seed := draw.Seed(0, first, api.Nat{}, nil)
	done := beacon.Done{Seed: seed, Faults: []int{0, 0}, Stakes: []uint64{0, 0}}
	for range 3 {
		stands(t, b, 1, 0, seed, 0)
		did(t, b, done)
		for _, n := range []int{0, 1, 1000} {
			if l, e := b.Leaders(n); len(l) != 0 || e != api.ErrZero {
				t.Error(n, l, e)
			}
		}
		told := b.Block([][]byte{{9}, nil, bytesOf(t, deal(g, 0, 3)), bytesOf(t, ack(0, 0)), bytesOf(t, reveal(9, 1)), bytesOf(t, post(0, 0, 0, 1)), bytesOf(t, api.Tx{Kind: 3}), bytesOf(t, bond(0, 10)), bytesOf(t, bond(5, 1)), bytesOf(t, bond(0, 0)), bytesOf(t, unbond(0, 1)), bytesOf(t, api.Tx{Kind: 6, Value: api.Nat{1, 1}}), bytesOf(t, api.Tx{Kind: 7, From: 9, Value: api.Nat{1, 1}})})
		want := []api.Errno{api.ErrShape, api.ErrShort, api.ErrPhase, api.ErrPhase, api.ErrPhase, api.ErrPhase, api.ErrPhase, api.ErrFunds, api.ErrArg, api.OK, api.ErrFunds, api.ErrFunds, api.ErrFunds}
		if !slices.Equal(told, want) {
			t.Error(told)
		}
	}
	told := b.Block([][]byte{bytesOf(t, bond(1, 3)), bytesOf(t, deal(g, 1, 3))}) // behind the block it begins
	if !slices.Equal(told, []api.Errno{api.OK, api.ErrPhase}) {
		t.Error(told)
	}
	stands(t, b, 1, 0, seed, 4)
	if !slices.Equal(b.Epoch().Counts(), []int{0, 1}) || b.Money().Epoch() != 1 {
		t.Error(b.Epoch().Counts())
	}
	goes(t, b, deal(g, 1, 3))
	goes(t, b, ack(1, 1))
	goes(t, b)
	goes(t, b, reveal(1, 3))
	next := draw.Seed(1, seed, limb.Small(3), []int{1})
	did(t, b, done, beacon.Done{Number: 1, Seed: next, Qualified: []int{1}, Faults: []int{0, 0}, Stakes: []uint64{0, 3}})
}

func TestLeaders(t *testing.T) {
	b := made(t, config(0, 9, 2), []uint64{9, 9, 9}, []uint64{5, 3, 1}, 1)
	for range 2 {
		for _, n := range []int{0, 1, 9, 50, 1000} {
			want, _ := draw.Leaders(b.Seed(), []int{5, 3, 1}, n)
			if l, e := b.Leaders(n); !slices.Equal(l, want) || e != api.OK || len(l) != n {
				t.Error(n, l, e)
			}
		}
		for _, n := range []int{-1, 1001, math.MaxInt, math.MinInt} {
			if l, e := b.Leaders(n); len(l) != 0 || e != api.ErrLong {
				t.Error(n, l, e)
			}
		}
		for range 4 {
			goes(t, b)
		}
	}
}

// chances makes Txs by chance, mostly of a phase.
func chances(r *rand.Rand, g *group.Group, phase, n, slots int) []byte {
	x := api.Tx{Kind: max(phase, 1), From: r.Intn(n), Dealer: r.Intn(n), Slot: r.Intn(slots)}
	switch r.Intn(9) {
	case 0:
		x.Kind = 1 + r.Intn(7)
	case 1, 2:
		x.Kind = 6 + r.Intn(2)
	case 3:
		x.Kind = 5
	}
	secret := uint64(1 + x.From)
	switch x.Kind {
	case 1:
		x.Commits = deal(g, 0, secret).Commits
		if r.Intn(9) == 0 {
			x.Commits = nil
		}
	case 2, 3, 4:
		x.Value = limb.Small(secret) // of degree 0: every share is the secret
	case 5:
		x.Value = limb.Small(uint64(1 + x.Dealer))
	case 6, 7:
		x.Value = limb.Small(uint64(r.Intn(12)))
	}
	if r.Intn(25) == 0 {
		x.Value = api.Nat{r.Uint64(), r.Uint64() % 2}
	}
	b, _ := epoch.Encode(x)
	if r.Intn(30) == 0 {
		b = b[:r.Intn(len(b))]
	}
	return b
}

// model goes through blocks as the promises tell it.
type model struct {
	g      *group.Group
	c      api.Config
	money  *stake.Ledger
	state  *epoch.State
	number uint64
	at     int
	seed   api.Digest
	done   []beacon.Done
}

func (m *model) begin() {
	m.state, m.at = nil, 0
	for _, n := range m.money.Stakes() {
		if n > 0 {
			m.state, _ = epoch.New(m.g, m.c, m.money.Stakes(), m.number, m.seed)
			return
		}
	}
}

func (m *model) one(b []byte) api.Errno {
	x, e := epoch.Decode(b)
	switch {
	case e != api.OK:
		return e
	case x.Kind <= 5 && m.state == nil:
		return api.ErrPhase
	case x.Kind <= 5:
		return m.state.Apply(m.at, x)
	case limb.Len(x.Value) > 64:
		return api.ErrFunds
	case x.Kind == 6:
		return m.money.Bond(x.From, x.Value[0])
	}
	return m.money.Unbond(x.From, x.Value[0])
}

func (m *model) block(txs [][]byte) []api.Errno {
	var told []api.Errno
	for _, b := range txs {
		told = append(told, m.one(b))
	}
	if m.state == nil {
		m.begin()
		return told
	}
	m.at++
	if !m.state.Finished(m.at) {
		return told
	}
	d := beacon.Done{Number: m.number, Qualified: m.state.Qualified(), Faults: m.state.Faults()}
	d.Seed, _ = m.state.Seed()
	for who, fault := range d.Faults {
		if fault > 0 {
			m.money.Fault(who, m.c.Penalty)
		}
	}
	m.money.Next()
	d.Stakes = m.money.Stakes()
	m.done = append(m.done, d)
	m.number, m.seed = m.number+1, d.Seed
	m.begin()
	return told
}

func money(l *stake.Ledger, n int) []uint64 {
	all := []uint64{l.Epoch(), l.Pot(), l.Treasury(), l.Total()}
	for who := range n {
		all = append(all, l.Free(who), l.Bonded(who), l.Waiting(who))
	}
	return all
}

// TestFollows: who goes through the same blocks comes to the same, which is as the promises tell it; money stays.
func TestFollows(t *testing.T) {
	r := rand.New(rand.NewSource(33))
	g := little(t)
	ended, done, faults := 0, 0, 0
	for range 60 {
		n := 1 + r.Intn(3)
		free, bonds := make([]uint64, n), make([]uint64, n)
		total := uint64(0)
		for who := range free {
			free[who] = uint64(5 + r.Intn(20))
			bonds[who] = uint64(1 + r.Intn(5))
			total += free[who]
		}
		c := config(0, 1+r.Intn(4), uint64(r.Intn(4)))
		delay := uint64(r.Intn(3))
		x, y := made(t, c, free, bonds, delay), made(t, c, free, bonds, delay)
		m := &model{g: g, c: c, seed: first}
		m.money, _ = stake.New(free, delay)
		for who, amount := range bonds {
			m.money.Bond(who, amount)
		}
		m.begin()
		for range 60 {
			var txs [][]byte
			phase := 6
			if m.state != nil {
				phase = m.state.Phase(m.at)
			}
			for range r.Intn(4 * n * c.Slots) {
				txs = append(txs, chances(r, g, phase, n, c.Slots))
			}
			want := m.block(txs)
			told := x.Block(txs)
			if !slices.Equal(told, want) || !slices.Equal(y.Block(txs), told) {
				t.Fatal(told, want)
			}
			if x.Number() != m.number || x.At() != m.at || x.Seed() != m.seed || (x.Epoch() == nil) != (m.state == nil) || !slices.Equal(money(x.Money(), n), money(m.money, n)) || x.Money().Total() != total {
				t.Fatal(x.Number(), x.At(), money(x.Money(), n), money(m.money, n))
			}
			if x.Epoch() != nil && !slices.Equal(x.Epoch().Counts(), m.state.Counts()) {
				t.Fatal(x.Epoch().Counts())
			}
			if x.Epoch() == nil {
				ended++
			}
		}
		if !slices.EqualFunc(x.Done(), m.done, same) || !slices.EqualFunc(y.Done(), m.done, same) {
			t.Fatal(x.Done(), m.done)
		}
		done += len(m.done)
		for _, d := range m.done {
			for _, fault := range d.Faults {
				faults += min(fault, 1)
			}
		}
	}
	if ended < 30 || done < 200 || faults < 50 {
		t.Error("seldom", ended, done, faults)
	}
}
