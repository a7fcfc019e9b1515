package stake_test

import (
	"math"
	"math/big"
	"math/rand"
	"slices"
	"testing"

	"sortition/api"
	"sortition/stake"
)

const top = math.MaxUint64

func made(t *testing.T, delay uint64, free ...uint64) *stake.Ledger {
	t.Helper()
	l, e := stake.New(free, delay)
	if e != api.OK || l == nil {
		t.Fatal(free, delay, e)
	}
	return l
}

func TestNew(t *testing.T) {
	for i, c := range []struct {
		free  []uint64
		delay uint64
		e     api.Errno
	}{
		{nil, 0, api.ErrLong},
		{[]uint64{5}, 0, api.OK},
		{[]uint64{0}, 100, api.OK},
		{[]uint64{5}, 101, api.ErrLong},
		{[]uint64{5}, top, api.ErrLong},
		{make([]uint64, 8), 1, api.OK},
		{make([]uint64, 9), 1, api.ErrLong},
		{[]uint64{1<<63 - 2, 1}, 1, api.OK},
		{[]uint64{1<<63 - 1, 1}, 1, api.ErrOver},
		{[]uint64{top, 1}, 1, api.ErrOver},
		{[]uint64{top}, 101, api.ErrLong},
		{slices.Repeat([]uint64{top}, 9), 1, api.ErrLong},
	} {
		before := slices.Clone(c.free)
		l, e := stake.New(c.free, c.delay)
		if e != c.e || (l == nil) != (e != api.OK) || !slices.Equal(c.free, before) {
			t.Error(i, l, e)
		}
		if e != api.OK {
			continue
		}
		sum := uint64(0)
		for who, n := range c.free {
			sum += n
			if l.Free(who) != n || l.Bonded(who) != 0 || l.Waiting(who) != 0 {
				t.Error(i, who, l.Free(who))
			}
		}
		if l.Epoch() != 0 || l.Pot() != 0 || l.Treasury() != 0 || l.Total() != sum || !slices.Equal(l.Stakes(), make([]uint64, len(c.free))) {
			t.Error(i, l.Epoch(), l.Pot(), l.Treasury(), l.Total(), l.Stakes())
		}
	}
}

func TestExample(t *testing.T) {
	l := made(t, 1, 10, 10)
	if l.Bond(0, 8) != api.OK || l.Bond(1, 4) != api.OK || l.Unbond(0, 3) != api.OK || l.Waiting(0) != 3 {
		t.Error(l.Waiting(0))
	}
	if whose := l.Next(); len(whose) != 0 || l.Free(0) != 2 {
		t.Error(whose, l.Free(0))
	}
	if whose := l.Next(); !slices.Equal(whose, []int{0}) || l.Free(0) != 5 || l.Waiting(0) != 0 {
		t.Error(whose, l.Free(0))
	}
	if n, e := l.Fault(1, 100); n != 4 || e != api.OK || l.Pot() != 4 || l.Bonded(1) != 0 {
		t.Error(n, e)
	}
	if l.Next(); l.Bonded(0) != 9 || l.Pot() != 0 || l.Treasury() != 0 {
		t.Error(l.Bonded(0))
	}
}

func TestNobody(t *testing.T) {
	l := made(t, 1, 10, 10)
	for _, who := range []int{-1, 2, 3, 8, math.MinInt, math.MaxInt} {
		for _, amount := range []uint64{0, 1, top} {
			n, e := l.Fault(who, amount)
			if l.Bond(who, amount) != api.ErrArg || l.Unbond(who, amount) != api.ErrArg || n != 0 || e != api.ErrArg {
				t.Error(who, amount)
			}
		}
		if l.Free(who) != 0 || l.Bonded(who) != 0 || l.Waiting(who) != 0 {
			t.Error(who)
		}
	}
}

func TestFunds(t *testing.T) {
	l := made(t, 0, 10)
	if l.Bond(0, 11) != api.ErrFunds || l.Bond(0, top) != api.ErrFunds || l.Bond(0, 10) != api.OK || l.Bond(0, 0) != api.OK || l.Bond(0, 1) != api.ErrFunds {
		t.Error("Bond")
	}
	if l.Unbond(0, 11) != api.ErrFunds || l.Unbond(0, 4) != api.OK || l.Unbond(0, 7) != api.ErrFunds || l.Unbond(0, 0) != api.OK {
		t.Error("Unbond")
	}
	if l.Free(0) != 0 || l.Bonded(0) != 6 || l.Waiting(0) != 4 {
		t.Error(l.Free(0), l.Bonded(0), l.Waiting(0))
	}
}

func TestFull(t *testing.T) {
	l := made(t, 2, 100, 100)
	l.Bond(0, 100)
	l.Bond(1, 50)
	for range 30 {
		if e := l.Unbond(0, 0); e != api.OK { // none is no part
			t.Fatal(e)
		}
	}
	for i := range 20 {
		if e := l.Unbond(i%2, 1); e != api.OK {
			t.Fatal(i, e)
		}
	}
	for who := range 2 {
		if l.Unbond(who, 1) != api.ErrFull || l.Unbond(who, 0) != api.OK || l.Unbond(who, 91) != api.ErrFunds || l.Waiting(who) != 10 {
			t.Error(who)
		}
	}
	if n, e := l.Fault(1, 41); n != 41 || e != api.OK || l.Waiting(1) != 9 {
		t.Error(n, e, l.Waiting(1))
	}
	if l.Unbond(0, 5) != api.OK || l.Unbond(0, 5) != api.ErrFull { // one waits no more
		t.Error("the place that came free")
	}
	l.Next()
	l.Next()
	if whose := l.Next(); len(whose) != 20 || l.Waiting(0) != 0 || l.Unbond(0, 1) != api.OK {
		t.Error(whose)
	}
}

func TestDelays(t *testing.T) {
	for _, delay := range []uint64{0, 1, 2, 7, 100} {
		l := made(t, delay, 10)
		l.Bond(0, 10)
		l.Next()
		l.Unbond(0, 4)
		for range delay {
			if whose := l.Next(); len(whose) != 0 || l.Waiting(0) != 4 {
				t.Fatal(delay, whose)
			}
		}
		if whose := l.Next(); !slices.Equal(whose, []int{0}) || l.Free(0) != 4 || l.Waiting(0) != 0 || l.Epoch() != delay+2 {
			t.Error(delay, whose)
		}
		if whose := l.Next(); len(whose) != 0 || l.Free(0) != 4 {
			t.Error(delay, whose)
		}
	}
}

// TestFaultsOrder: what is bonded goes ahead of what waits, and of this what comes free last.
func TestFaultsOrder(t *testing.T) {
	begin := func() *stake.Ledger {
		l := made(t, 1, 100, 100)
		l.Bond(0, 50)
		l.Bond(1, 50)
		l.Unbond(0, 5)
		l.Unbond(1, 6)
		l.Unbond(0, 7)
		l.Next()
		l.Unbond(0, 8)
		l.Unbond(0, 9) // 21 are bonded still
		return l
	}
	for _, c := range []struct {
		amount, taken       uint64
		bonded, first, then uint64 // what is bonded still, and what comes free
		whose, whoseThen    []int
	}{
		{0, 0, 21, 12, 17, []int{0, 1, 0}, []int{0, 0}},
		{20, 20, 1, 12, 17, []int{0, 1, 0}, []int{0, 0}},
		{21, 21, 0, 12, 17, []int{0, 1, 0}, []int{0, 0}},
		{22, 22, 0, 12, 16, []int{0, 1, 0}, []int{0, 0}},
		{21 + 9, 30, 0, 12, 8, []int{0, 1, 0}, []int{0}},
		{21 + 10, 31, 0, 12, 7, []int{0, 1, 0}, []int{0}},
		{21 + 17, 38, 0, 12, 0, []int{0, 1, 0}, nil},
		{21 + 18, 39, 0, 11, 0, []int{0, 1, 0}, nil},
		{21 + 17 + 7, 45, 0, 5, 0, []int{0, 1}, nil},
		{21 + 17 + 8, 46, 0, 4, 0, []int{0, 1}, nil},
		{21 + 17 + 12, 50, 0, 0, 0, []int{1}, nil},
		{top, 50, 0, 0, 0, []int{1}, nil},
	} {
		l := begin()
		if n, e := l.Fault(0, c.amount); n != c.taken || e != api.OK || l.Pot() != c.taken || l.Bonded(0) != c.bonded || l.Waiting(0) != c.first+c.then {
			t.Error(c.amount, n, e, l.Pot(), l.Bonded(0), l.Waiting(0))
		}
		if l.Waiting(1) != 6 || l.Bonded(1) != 44 || l.Total() != 200 {
			t.Error("the other one", c.amount)
		}
		if whose := l.Next(); !slices.Equal(whose, c.whose) || l.Free(0) != 50+c.first {
			t.Error("first", c.amount, whose, l.Free(0))
		}
		if whose := l.Next(); !slices.Equal(whose, c.whoseThen) || l.Free(0) != 50+c.first+c.then {
			t.Error("then", c.amount, whose, l.Free(0))
		}
	}
}

func TestPots(t *testing.T) {
	l := made(t, 1, 10, 10, 10)
	l.Bond(0, 10)
	l.Bond(1, 3)
	l.Bond(2, 7)
	l.Fault(0, 8)
	if l.Next(); !slices.Equal(l.Stakes(), []uint64{2 + 8*2/12, 3 + 8*3/12, 7 + 8*7/12}) || l.Treasury() != 1 || l.Pot() != 0 {
		t.Error(l.Stakes(), l.Treasury())
	}
	for who := range 3 {
		l.Fault(who, 100)
	}
	if l.Next(); !slices.Equal(l.Stakes(), []uint64{0, 0, 0}) || l.Treasury() != 20 || l.Pot() != 0 || l.Total() != 30 {
		t.Error("nobody has something bonded", l.Stakes(), l.Treasury())
	}
}

func TestStakesStay(t *testing.T) {
	l := made(t, 1, 10, 10)
	l.Bond(0, 4)
	s := l.Stakes()
	l.Bond(0, 1)
	l.Fault(0, 3)
	l.Next()
	if !slices.Equal(s, []uint64{4, 0}) {
		t.Error(s)
	}
	s[0] = 77
	if l.Bonded(0) != 5 || !slices.Equal(l.Stakes(), []uint64{5, 0}) {
		t.Error(l.Stakes())
	}
}

// wait is a part of a model's that waits.
type wait struct {
	who    int
	amount uint64
	epoch  uint64
}

// model is a ledger as the promises tell it: what waits stands in the order in which it began to.
type model struct {
	free, bonded         []uint64
	waits                []wait
	epoch, delay         uint64
	pot, treasury, total uint64
}

func (m *model) fault(who int, amount uint64) uint64 {
	taken := min(amount, m.bonded[who])
	m.bonded[who] -= taken
	for i := len(m.waits) - 1; i >= 0; i-- { // one delay: who began last comes free last
		if w := &m.waits[i]; w.who == who {
			n := min(amount-taken, w.amount)
			w.amount -= n
			taken += n
		}
	}
	m.waits = slices.DeleteFunc(m.waits, func(w wait) bool { return w.amount == 0 })
	m.pot += taken
	return taken
}

func (m *model) next() []int {
	m.epoch++
	var whose []int
	for len(m.waits) > 0 && m.waits[0].epoch <= m.epoch {
		w := m.waits[0]
		m.waits = m.waits[1:]
		m.free[w.who] += w.amount
		whose = append(whose, w.who)
	}
	all := new(big.Int)
	for _, n := range m.bonded {
		all.Add(all, new(big.Int).SetUint64(n))
	}
	left := m.pot
	for who, n := range m.bonded {
		if all.Sign() > 0 {
			part := new(big.Int).Mul(new(big.Int).SetUint64(m.pot), new(big.Int).SetUint64(n))
			part.Div(part, all)
			m.bonded[who] += part.Uint64()
			left -= part.Uint64()
		}
	}
	m.treasury += left
	m.pot = 0
	return whose
}

func (m *model) unbond(who int, amount uint64) api.Errno {
	switch {
	case m.bonded[who] < amount:
		return api.ErrFunds
	case amount > 0 && len(m.waits) >= 20:
		return api.ErrFull
	case amount > 0:
		m.bonded[who] -= amount
		m.waits = append(m.waits, wait{who, amount, m.epoch + m.delay + 1})
	}
	return api.OK
}

func (m *model) is(t *testing.T, l *stake.Ledger) {
	t.Helper()
	waiting := make([]uint64, len(m.free))
	for _, w := range m.waits {
		waiting[w.who] += w.amount
	}
	for who := range m.free {
		if l.Free(who) != m.free[who] || l.Bonded(who) != m.bonded[who] || l.Waiting(who) != waiting[who] {
			t.Fatal(who, l.Free(who), l.Bonded(who), l.Waiting(who), m)
		}
	}
	if l.Epoch() != m.epoch || l.Pot() != m.pot || l.Treasury() != m.treasury || l.Total() != m.total || !slices.Equal(l.Stakes(), m.bonded) {
		t.Fatal(l.Epoch(), l.Pot(), l.Treasury(), l.Total(), l.Stakes(), m)
	}
}

// TestFollows: whatever is done, in whatever order, all is as the promises tell it, and what there is stays.
func TestFollows(t *testing.T) {
	r := rand.New(rand.NewSource(21))
	for run := range 100 {
		n := 1 + r.Intn(8)
		m := &model{bonded: make([]uint64, n), delay: uint64(r.Intn(4))}
		for range n {
			amount := uint64(r.Intn(1000))
			if run%3 == 0 {
				amount = r.Uint64() >> 5
			}
			m.free = append(m.free, amount)
			m.total += amount
		}
		l := made(t, m.delay, m.free...)
		for range 150 {
			who := r.Intn(n)
			switch r.Intn(7) {
			case 0, 1:
				amount := r.Uint64() % (m.free[who] + 2)
				want := api.OK
				if amount > m.free[who] {
					want = api.ErrFunds
				} else {
					m.free[who] -= amount
					m.bonded[who] += amount
				}
				if e := l.Bond(who, amount); e != want {
					t.Fatal("Bond", e, want)
				}
			case 2, 3, 4:
				amount := r.Uint64() % (m.bonded[who]/4 + 2)
				want := m.unbond(who, amount)
				if e := l.Unbond(who, amount); e != want {
					t.Fatal("Unbond", e, want)
				}
			case 5:
				amount := r.Uint64() % (m.bonded[who]*2 + 100)
				if r.Intn(2) == 0 {
					amount = m.bonded[who] + uint64(r.Intn(200))
				}
				want := m.fault(who, amount)
				if got, e := l.Fault(who, amount); got != want || e != api.OK {
					t.Fatal("Fault", got, want, e)
				}
			case 6:
				want := m.next()
				if got := l.Next(); !slices.Equal(got, want) {
					t.Fatal("Next", got, want)
				}
			}
			m.is(t, l)
		}
	}
}
