package purse_test

import (
	"math"
	"math/big"
	"math/rand"
	"slices"
	"testing"

	"sortition/api"
	"sortition/purse"
)

const top = math.MaxUint64

func made(t *testing.T, l ...uint64) *purse.Purse {
	t.Helper()
	p, e := purse.New(l)
	if e != api.OK || p == nil {
		t.Fatal(l, e)
	}
	return p
}

func holds(t *testing.T, p *purse.Purse, l ...uint64) {
	t.Helper()
	sum := uint64(0)
	for i, n := range l {
		sum += n
		if p.Has(i) != n {
			t.Error("Has", i, p.Has(i), n)
		}
	}
	if !slices.Equal(p.All(), l) || p.Len() != len(l) || p.Total() != sum {
		t.Error(p.All(), p.Len(), p.Total(), l)
	}
}

func TestNew(t *testing.T) {
	for i, c := range []struct {
		l []uint64
		e api.Errno
	}{
		{nil, api.OK},
		{[]uint64{0}, api.OK},
		{[]uint64{5, 0, 10}, api.OK},
		{[]uint64{1<<63 - 1}, api.OK},
		{[]uint64{1<<63 - 2, 1}, api.OK},
		{[]uint64{1<<63 - 1, 1}, api.ErrOver},
		{[]uint64{1 << 63}, api.ErrOver},
		{[]uint64{top, 1}, api.ErrOver}, // 0, if it were reckoned modulo 2^64
		{[]uint64{1 << 63, 1 << 63}, api.ErrOver},
		{make([]uint64, 40), api.OK},
		{make([]uint64, 41), api.ErrLong},
		{slices.Repeat([]uint64{top}, 40), api.ErrOver},
		{slices.Repeat([]uint64{top}, 41), api.ErrLong},
	} {
		p, e := purse.New(c.l)
		if e != c.e || (p == nil) != (e != api.OK) {
			t.Error(i, p, e)
		}
		if e == api.OK {
			holds(t, p, c.l...)
		}
	}
	for _, i := range []int{-1, 3, math.MinInt, math.MaxInt} {
		if n := made(t, 5, 6, 7).Has(i); n != 0 {
			t.Error(i, n)
		}
	}
}

func TestCopies(t *testing.T) {
	l := []uint64{5, 6}
	p := made(t, l...)
	p.Move(0, 1, 2)
	if !slices.Equal(l, []uint64{5, 6}) {
		t.Error("what was handed in changed", l)
	}
	all := p.All()
	p.Move(1, 0, 1)
	if !slices.Equal(all, []uint64{3, 8}) {
		t.Error("what was handed out changed", all)
	}
	all[0] = 100
	holds(t, p, 4, 7)
}

func TestMoves(t *testing.T) {
	p := made(t, 5, 0, 10)
	for i, c := range []struct {
		from, to int
		amount   uint64
		e        api.Errno
		want     []uint64
	}{
		{0, 1, 6, api.ErrFunds, []uint64{5, 0, 10}},
		{0, 1, 5, api.OK, []uint64{0, 5, 10}},
		{0, 1, 1, api.ErrFunds, []uint64{0, 5, 10}},
		{0, 1, 0, api.OK, []uint64{0, 5, 10}},
		{2, 0, top, api.ErrFunds, []uint64{0, 5, 10}},
		{2, 0, 4, api.OK, []uint64{4, 5, 6}},
		{2, 2, 6, api.OK, []uint64{4, 5, 6}},
		{2, 2, 7, api.ErrFunds, []uint64{4, 5, 6}},
		{3, 0, 0, api.ErrArg, []uint64{4, 5, 6}},
		{0, 3, 0, api.ErrArg, []uint64{4, 5, 6}},
		{0, 3, 100, api.ErrArg, []uint64{4, 5, 6}},
		{-1, 0, 0, api.ErrArg, []uint64{4, 5, 6}},
		{0, -1, 1, api.ErrArg, []uint64{4, 5, 6}},
		{math.MaxInt, math.MinInt, 1, api.ErrArg, []uint64{4, 5, 6}},
	} {
		if e := p.Move(c.from, c.to, c.amount); e != c.e {
			t.Error(i, e)
		}
		holds(t, p, c.want...)
	}
}

func TestTakes(t *testing.T) {
	p := made(t, 5, 0, 10)
	for i, c := range []struct {
		from, to     int
		amount, took uint64
		want         []uint64
	}{
		{2, 0, 100, 10, []uint64{15, 0, 0}},
		{2, 0, 100, 0, []uint64{15, 0, 0}},
		{0, 1, 4, 4, []uint64{11, 4, 0}},
		{0, 1, 11, 11, []uint64{0, 15, 0}},
		{1, 2, top, 15, []uint64{0, 0, 15}},
		{2, 2, 7, 7, []uint64{0, 0, 15}},
		{2, 2, 70, 15, []uint64{0, 0, 15}},
		{2, 0, 0, 0, []uint64{0, 0, 15}},
		{2, 3, 5, 0, []uint64{0, 0, 15}},
		{2, -1, 5, 0, []uint64{0, 0, 15}},
		{3, 2, 5, 0, []uint64{0, 0, 15}},
		{-1, 2, 5, 0, []uint64{0, 0, 15}},
	} {
		if took := p.Take(c.from, c.to, c.amount); took != c.took {
			t.Error(i, took)
		}
		holds(t, p, c.want...)
	}
}

func TestSpreads(t *testing.T) {
	for i, c := range []struct {
		has        []uint64
		from, rest int
		weights    []uint64
		e          api.Errno
		want       []uint64
	}{
		{[]uint64{10, 5, 0}, 0, 1, []uint64{1, 1, 1}, api.OK, []uint64{3, 9, 3}},
		{[]uint64{10, 5, 0}, 0, 0, []uint64{1, 1, 1}, api.OK, []uint64{4, 8, 3}},
		{[]uint64{10, 5, 0}, 0, 2, []uint64{0, 0, 0}, api.OK, []uint64{0, 5, 10}},
		{[]uint64{10, 5, 0}, 0, 0, []uint64{0, 0, 0}, api.OK, []uint64{10, 5, 0}},
		{[]uint64{10, 5, 0}, 0, 1, []uint64{0, 3, 1}, api.OK, []uint64{0, 13, 2}},
		{[]uint64{10, 5, 0}, 1, 2, []uint64{0, 3, 1}, api.OK, []uint64{10, 3, 2}},
		{[]uint64{10, 5, 0}, 2, 1, []uint64{1, 1, 1}, api.OK, []uint64{10, 5, 0}},
		{[]uint64{10, 5, 0}, 0, 1, []uint64{top, top, top}, api.OK, []uint64{3, 9, 3}},
		{[]uint64{10, 5, 0}, 0, 1, []uint64{top, 0, 1}, api.OK, []uint64{9, 6, 0}},
		{[]uint64{1<<63 - 1}, 0, 0, []uint64{top}, api.OK, []uint64{1<<63 - 1}},
		{[]uint64{10, 5, 0}, 0, 1, []uint64{1, 1}, api.ErrArg, []uint64{10, 5, 0}},
		{[]uint64{10, 5, 0}, 0, 1, []uint64{1, 1, 1, 1}, api.ErrArg, []uint64{10, 5, 0}},
		{[]uint64{10, 5, 0}, 0, 1, nil, api.ErrArg, []uint64{10, 5, 0}},
		{[]uint64{10, 5, 0}, 3, 1, []uint64{1, 1, 1}, api.ErrArg, []uint64{10, 5, 0}},
		{[]uint64{10, 5, 0}, -1, 1, []uint64{1, 1, 1}, api.ErrArg, []uint64{10, 5, 0}},
		{[]uint64{10, 5, 0}, 0, 3, []uint64{1, 1, 1}, api.ErrArg, []uint64{10, 5, 0}},
		{[]uint64{10, 5, 0}, 0, -1, []uint64{1, 1, 1}, api.ErrArg, []uint64{10, 5, 0}},
	} {
		p, before := made(t, c.has...), slices.Clone(c.weights)
		if e := p.Spread(c.from, c.rest, c.weights); e != c.e || !slices.Equal(c.weights, before) {
			t.Error(i, e)
		}
		holds(t, p, c.want...)
	}
}

// TestFollows: whatever is moved, what all have together stays; and each spread is as the promise tells it.
func TestFollows(t *testing.T) {
	r := rand.New(rand.NewSource(20))
	for range 200 {
		n := 1 + r.Intn(40)
		l := make([]uint64, n)
		for i := range l {
			l[i] = r.Uint64() >> (8 + r.Intn(56))
		}
		p := made(t, l...)
		total := p.Total()
		for range 20 {
			from, to, amount := r.Intn(n+2)-1, r.Intn(n+2)-1, r.Uint64()>>r.Intn(64)
			switch r.Intn(3) {
			case 0:
				p.Move(from, to, amount)
			case 1:
				p.Take(from, to, amount)
			case 2:
				spread(t, r, p, from, to)
			}
			if p.Total() != total || p.Len() != n {
				t.Fatal(p.Total(), total)
			}
		}
	}
}

func spread(t *testing.T, r *rand.Rand, p *purse.Purse, from, rest int) {
	t.Helper()
	want, weights, all := p.All(), make([]uint64, p.Len()), new(big.Int)
	for i := range weights {
		weights[i] = r.Uint64() >> r.Intn(65)
		all.Add(all, new(big.Int).SetUint64(weights[i]))
	}
	e := p.Spread(from, rest, weights)
	if min(from, rest) < 0 || max(from, rest) >= p.Len() {
		if e != api.ErrArg {
			t.Fatal(e)
		}
		return
	}
	pot := want[from]
	want[from] = 0
	left := pot
	for i, weight := range weights {
		if all.Sign() != 0 {
			part := new(big.Int).Mul(new(big.Int).SetUint64(pot), new(big.Int).SetUint64(weight))
			part.Div(part, all)
			want[i] += part.Uint64()
			left -= part.Uint64()
		}
	}
	want[rest] += left
	if e != api.OK || !slices.Equal(p.All(), want) {
		t.Fatal(from, rest, weights, p.All(), want)
	}
}
