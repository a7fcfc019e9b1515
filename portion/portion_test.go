package portion_test

import (
	"math"
	"math/big"
	"math/rand"
	"slices"
	"testing"

	"sortition/api"
	"sortition/limb"
	"sortition/portion"
)

const top = math.MaxUint64

func whole(n uint64) *big.Int { return new(big.Int).SetUint64(n) }

func total(stakes []uint64) *big.Int {
	sum := new(big.Int)
	for _, s := range stakes {
		sum.Add(sum, whole(s))
	}
	return sum
}

// lists are stakes: small and alike, great, and some by chance.
func lists() [][]uint64 {
	l := [][]uint64{{5, 3, 2}, {1, 1, 1}, {1}, {0, 1}, {1, 0, 0}, {3, 0, 3, 0, 3}, {top, top, top}, {top, 1}, {1, top}, {top, top - 1, 1}, {2, 4, 6}, {7, 1, 1, 1}, {1 << 63, 1 << 63}, {10, 10, 10, 1}}
	r := rand.New(rand.NewSource(13))
	for n := 1; n <= 40; n += 3 {
		for _, bits := range []int{2, 5, 40, 64} {
			stakes := make([]uint64, n)
			for i := range stakes {
				stakes[i] = r.Uint64() >> (64 - bits)
			}
			l = append(l, stakes)
		}
	}
	return l
}

func TestTotals(t *testing.T) {
	for _, l := range append(lists(), slices.Repeat([]uint64{top}, 1000)) {
		before := slices.Clone(l)
		got := portion.Total(l)
		if new(big.Int).SetBytes(limb.Bytes(got)).Cmp(total(l)) != 0 || !slices.Equal(l, before) {
			t.Error(l, got)
		}
	}
	if portion.Total(nil) != (api.Nat{}) || portion.Total([]uint64{top, 2}) != (api.Nat{1, 1}) {
		t.Error("Total")
	}
}

func TestParts(t *testing.T) {
	l := []uint64{0, 1, 2, 3, 7, 10, 1000, 1 << 32, 1<<63 - 1, 1 << 63, top - 1, top}
	alls := []api.Nat{{}, {0, 1}, {1, 1}, {top, top}, {0, 0, 1}, {0, 0, 0, 1 << 63}, {top, top, top, top}}
	for _, n := range l {
		alls = append(alls, limb.Small(n))
	}
	for _, pot := range l {
		for _, mine := range l {
			for _, all := range alls {
				want := new(big.Int)
				if all != (api.Nat{}) {
					want.Div(want.Mul(whole(pot), whole(mine)), new(big.Int).SetBytes(limb.Bytes(all)))
				}
				if !want.IsUint64() {
					want = whole(top)
				}
				if got := portion.Part(pot, mine, all); got != want.Uint64() {
					t.Fatal(pot, mine, all, got)
				}
			}
		}
	}
}

// share is Share as the promise tells it.
func share(stakes []uint64, n int) []int {
	all := total(stakes)
	counts := make([]int, len(stakes))
	rests := make([]*big.Int, len(stakes))
	left := n
	for i, s := range stakes {
		product, rest := new(big.Int).Mul(big.NewInt(int64(n)), whole(s)), new(big.Int)
		q, _ := product.DivMod(product, all, rest)
		counts[i], rests[i] = int(q.Int64()), rest
		left -= counts[i]
	}
	for range left {
		most := 0
		for i := range rests {
			if rests[i].Cmp(rests[most]) > 0 {
				most = i
			}
		}
		counts[most]++
		rests[most] = big.NewInt(-1)
	}
	return counts
}

func TestShares(t *testing.T) {
	for _, stakes := range lists() {
		if total(stakes).Sign() == 0 {
			continue
		}
		for n := 0; n <= 200; n += 1 + n/8 {
			before := slices.Clone(stakes)
			got, e := portion.Share(stakes, n)
			if !slices.Equal(got, share(stakes, n)) || e != api.OK || !slices.Equal(stakes, before) {
				t.Fatal(stakes, n, got, e)
			}
		}
		if got, e := portion.Share(stakes, 200); !slices.Equal(got, share(stakes, 200)) || e != api.OK {
			t.Fatal(stakes, got, e)
		}
	}
}

func TestShareEnds(t *testing.T) {
	for i, c := range []struct {
		stakes []uint64
		n      int
		want   []int
		e      api.Errno
	}{
		{[]uint64{5, 3, 2}, 5, []int{3, 1, 1}, api.OK},
		{[]uint64{1, 1, 1}, 4, []int{2, 1, 1}, api.OK},
		{[]uint64{1, 1, 1}, 5, []int{2, 2, 1}, api.OK},
		{[]uint64{0, 0}, 0, []int{0, 0}, api.OK},
		{[]uint64{4, 5}, 0, []int{0, 0}, api.OK},
		{nil, 0, nil, api.OK},
		{nil, 1, nil, api.ErrZero},
		{[]uint64{0, 0}, 1, nil, api.ErrZero},
		{[]uint64{1}, -1, nil, api.ErrLong},
		{[]uint64{1}, 200, []int{200}, api.OK},
		{[]uint64{1}, 201, nil, api.ErrLong},
		{[]uint64{0}, 201, nil, api.ErrLong},
		{[]uint64{1}, math.MinInt, nil, api.ErrLong},
		{[]uint64{1}, math.MaxInt, nil, api.ErrLong},
		{slices.Repeat([]uint64{1}, 40), 40, slices.Repeat([]int{1}, 40), api.OK},
		{slices.Repeat([]uint64{1}, 41), 41, nil, api.ErrLong},
		{slices.Repeat([]uint64{0}, 41), 1, nil, api.ErrLong},
		{slices.Repeat([]uint64{0}, 41), 0, nil, api.ErrLong},
	} {
		got, e := portion.Share(c.stakes, c.n)
		if !slices.Equal(got, c.want) || e != c.e {
			t.Error(i, got, e)
		}
	}
}

func TestOwnersAndRanges(t *testing.T) {
	for i, c := range []struct {
		counts []int
		owners []int
		ranges [][2]int
		e      api.Errno
	}{
		{nil, nil, nil, api.OK},
		{[]int{0}, nil, [][2]int{{0, 0}}, api.OK},
		{[]int{2, 0, 1}, []int{0, 0, 2}, [][2]int{{0, 2}, {2, 2}, {2, 3}}, api.OK},
		{[]int{0, 0, 3, 0, 1, 0}, []int{2, 2, 2, 4}, [][2]int{{0, 0}, {0, 0}, {0, 3}, {3, 3}, {3, 4}, {4, 4}}, api.OK},
		{[]int{200}, make([]int, 200), [][2]int{{0, 200}}, api.OK},
		{[]int{201}, nil, nil, api.ErrArg},
		{[]int{199, 2}, nil, nil, api.ErrArg},
		{[]int{200, 1}, nil, nil, api.ErrArg},
		{[]int{-1}, nil, nil, api.ErrArg},
		{[]int{5, -1, 5}, nil, nil, api.ErrArg},
		{[]int{200, -1}, nil, nil, api.ErrArg},
		{[]int{math.MaxInt, math.MaxInt}, nil, nil, api.ErrArg},
		{[]int{math.MaxInt, math.MinInt, 2}, nil, nil, api.ErrArg},
		{[]int{1, math.MaxInt}, nil, nil, api.ErrArg},
		{make([]int, 41), nil, nil, api.ErrArg},
		{make([]int, 40), nil, make([][2]int, 40), api.OK},
	} {
		before := slices.Clone(c.counts)
		if got, e := portion.Owners(c.counts); !slices.Equal(got, c.owners) || e != c.e {
			t.Error("Owners", i, got, e)
		}
		if got, e := portion.Ranges(c.counts); !slices.Equal(got, c.ranges) || e != c.e {
			t.Error("Ranges", i, got, e)
		}
		if !slices.Equal(c.counts, before) {
			t.Error("changed", i)
		}
	}
}

func TestOwnersOfMany(t *testing.T) {
	counts := slices.Repeat([]int{5}, 40)
	owners, e := portion.Owners(counts)
	ranges, re := portion.Ranges(counts)
	if e != api.OK || re != api.OK || len(owners) != 200 || len(ranges) != 40 {
		t.Fatal(e, re, len(owners), len(ranges))
	}
	for slot, who := range owners {
		if who != slot/5 || slot < ranges[who][0] || slot >= ranges[who][1] {
			t.Error(slot, who)
		}
	}
}

// TestFollows: all slots are given, each has its part, with one more or without, and greater stakes no less.
func TestFollows(t *testing.T) {
	for _, stakes := range lists() {
		all := portion.Total(stakes)
		for n := 0; n <= 200 && all != (api.Nat{}); n += 9 {
			counts, e := portion.Share(stakes, n)
			sum := 0
			for i, c := range counts {
				sum += c
				least := int(portion.Part(uint64(n), stakes[i], all))
				if c != least && c != least+1 || stakes[i] == 0 && c != 0 {
					t.Fatal(stakes, n, i, c)
				}
				for k := range counts {
					if stakes[k] < stakes[i] && counts[k] > c {
						t.Fatal("greater", stakes, n, i, k)
					}
				}
			}
			if sum != n || e != api.OK {
				t.Fatal(stakes, n, sum, e)
			}
		}
	}
}
