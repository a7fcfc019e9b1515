package votes_test

import (
	"math"
	"math/big"
	"math/rand"
	"slices"
	"testing"

	"sortition/api"
	"sortition/votes"
)

const top = math.MaxUint64

var a, b, c = api.Digest{1}, api.Digest{31: 1}, api.Digest{1, 31: 1}

func made(t *testing.T, stakes ...uint64) *votes.Tally {
	t.Helper()
	y, e := votes.New(stakes)
	if e != api.OK || y == nil {
		t.Fatal(stakes, e)
	}
	return y
}

func thrice(part uint64) *big.Int {
	n := new(big.Int).SetUint64(part)
	return n.Mul(n, big.NewInt(3))
}

func TestParts(t *testing.T) {
	l := []uint64{0, 1, 2, 3, 4, 5, 6, 7, 8, 9, 10, 100, top / 3, top/3 + 1, top / 2, top/2 + 1, top / 3 * 2, top/3*2 + 1, 1 << 63, 1<<63 - 1, top - 1, top}
	for _, part := range l {
		for _, all := range l {
			whole := new(big.Int).SetUint64(all)
			if got := votes.More(part, all); got != (thrice(part).Cmp(whole) > 0) {
				t.Error("More", part, all, got)
			}
			if got := votes.Great(part, all); got != (thrice(part).Cmp(whole.Lsh(whole, 1)) > 0) {
				t.Error("Great", part, all, got)
			}
		}
	}
	if votes.Great(2, 3) || !votes.Great(3, 4) || votes.More(1, 3) || !votes.More(2, 3) || votes.Great(0, 0) || votes.More(0, 0) {
		t.Error("examples")
	}
}

func TestNew(t *testing.T) {
	for i, x := range []struct {
		stakes []uint64
		e      api.Errno
	}{
		{nil, api.ErrLong},
		{[]uint64{0}, api.OK},
		{[]uint64{5, 0, 1}, api.OK},
		{slices.Repeat([]uint64{1}, 40), api.OK},
		{slices.Repeat([]uint64{1}, 41), api.ErrLong},
		{slices.Repeat([]uint64{top}, 41), api.ErrLong},
		{[]uint64{1<<63 - 1}, api.OK},
		{[]uint64{1<<63 - 1, 1}, api.ErrOver},
		{[]uint64{top, 1}, api.ErrOver},
		{slices.Repeat([]uint64{top}, 40), api.ErrOver},
	} {
		before := slices.Clone(x.stakes)
		y, e := votes.New(x.stakes)
		if e != x.e || (y == nil) != (e != api.OK) || !slices.Equal(x.stakes, before) {
			t.Error(i, y, e)
		}
		if y == nil {
			continue
		}
		q, ok := y.Quorum()
		if y.Any() != 0 || y.AnyQuorum() || y.For(a) != 0 || y.Third(a) || ok || q != (api.Digest{}) || len(y.Twice()) != 0 {
			t.Error("votes in a new one", i)
		}
	}
}

func TestExamples(t *testing.T) {
	y := made(t, 1, 1, 1, 1)
	y.Vote(0, a)
	y.Vote(1, a)
	if q, ok := y.Quorum(); q != (api.Digest{}) || ok {
		t.Error(q, ok)
	}
	y.Vote(2, a)
	if q, ok := y.Quorum(); q != a || !ok {
		t.Error(q, ok)
	}
	if e := y.Vote(0, b); e != api.ErrFull || !slices.Equal(y.Twice(), []int{0}) {
		t.Error(e, y.Twice())
	}
}

func TestVotes(t *testing.T) {
	y := made(t, 3, 0, 2, 4)
	for i, x := range []struct {
		who   int
		v     api.Digest
		e     api.Errno
		any   uint64
		twice []int
	}{
		{-1, a, api.ErrArg, 0, nil},
		{4, a, api.ErrArg, 0, nil},
		{math.MinInt, a, api.ErrArg, 0, nil},
		{math.MaxInt, a, api.ErrArg, 0, nil},
		{1, a, api.ErrNone, 0, nil},
		{1, a, api.ErrNone, 0, nil},
		{1, b, api.ErrNone, 0, nil},
		{3, a, api.OK, 4, nil},
		{3, a, api.ErrSame, 4, nil},
		{3, b, api.ErrFull, 4, []int{3}},
		{3, b, api.ErrFull, 4, []int{3}}, // the first one counts, not the last one
		{3, c, api.ErrFull, 4, []int{3}},
		{3, a, api.ErrSame, 4, []int{3}},
		{0, api.Digest{}, api.OK, 7, []int{3}}, // for none is for something
		{0, api.Digest{}, api.ErrSame, 7, []int{3}},
		{0, a, api.ErrFull, 7, []int{0, 3}},
		{2, b, api.OK, 9, []int{0, 3}},
	} {
		if e := y.Vote(x.who, x.v); e != x.e || y.Any() != x.any || !slices.Equal(y.Twice(), x.twice) {
			t.Error(i, e, y.Any(), y.Twice())
		}
	}
	for who, want := range []api.Digest{{}, {}, b, a} {
		if v, ok := y.Voted(who); v != want || ok != (who != 1) {
			t.Error(who, v, ok)
		}
	}
	for _, who := range []int{-1, 4, math.MinInt, math.MaxInt} {
		if v, ok := y.Voted(who); v != (api.Digest{}) || ok {
			t.Error(who, v, ok)
		}
	}
	if y.For(a) != 4 || y.For(b) != 2 || y.For(c) != 0 || y.For(api.Digest{}) != 3 {
		t.Error(y.For(a), y.For(b), y.For(c), y.For(api.Digest{}))
	}
}

func TestQuorums(t *testing.T) {
	for i, x := range []struct {
		stakes []uint64
		votes  []api.Digest // c: no vote
		quorum api.Digest
		ok     bool
		any    bool
		third  bool // of a
	}{
		{[]uint64{1, 1, 1}, []api.Digest{a, a, c}, api.Digest{}, false, false, true},
		{[]uint64{1, 1, 1}, []api.Digest{a, a, a}, a, true, true, true},
		{[]uint64{1, 1, 1}, []api.Digest{a, b, b}, api.Digest{}, false, true, false},
		{[]uint64{1, 1, 1, 1}, []api.Digest{a, a, b, c}, api.Digest{}, false, true, true},
		{[]uint64{1, 1, 1, 1}, []api.Digest{a, b, b, b}, b, true, true, false},
		{[]uint64{1, 1, 1, 1}, []api.Digest{{}, {}, {}, b}, api.Digest{}, true, true, false},
		{[]uint64{2, 4}, []api.Digest{a, b}, api.Digest{}, false, true, false},
		{[]uint64{2, 5}, []api.Digest{a, b}, b, true, true, false},
		{[]uint64{5, 2}, []api.Digest{a, b}, a, true, true, true},
		{[]uint64{1 << 62, 1 << 61}, []api.Digest{a, c}, api.Digest{}, false, false, true},
		{[]uint64{1<<62 + 1, 1 << 61}, []api.Digest{a, c}, a, true, true, true},
		{[]uint64{1 << 61, 1 << 62}, []api.Digest{a, c}, api.Digest{}, false, false, false},
		{[]uint64{1<<61 + 1, 1 << 62}, []api.Digest{a, c}, api.Digest{}, false, false, true},
		{[]uint64{0, 0}, []api.Digest{a, a}, api.Digest{}, false, false, false},
	} {
		y := made(t, x.stakes...)
		for who, v := range x.votes {
			if v != c {
				y.Vote(who, v)
			}
		}
		q, ok := y.Quorum()
		if q != x.quorum || ok != x.ok || y.AnyQuorum() != x.any || y.Third(a) != x.third {
			t.Error(i, q, ok, y.AnyQuorum(), y.Third(a))
		}
	}
}

func TestTalliesStandAlone(t *testing.T) {
	stakes := []uint64{1, 1}
	x, y := made(t, stakes...), made(t, stakes...)
	x.Vote(0, a)
	if x.Any() != 1 || y.Any() != 0 {
		t.Error(x.Any(), y.Any())
	}
}

// TestFollows: all sums are those of the first votes; of two tallies with a quorum each, for unlike values, more than a third voted for both.
func TestFollows(t *testing.T) {
	r := rand.New(rand.NewSource(23))
	both := 0
	for range 3000 {
		stakes := make([]uint64, 1+r.Intn(7))
		all := uint64(0)
		for who := range stakes {
			stakes[who] = uint64(r.Intn(5))
			all += stakes[who]
		}
		x, y := made(t, stakes...), made(t, stakes...)
		first := map[int]api.Digest{}
		for range 2 * len(stakes) {
			who, v := r.Intn(len(stakes)), []api.Digest{a, a, b, {}}[r.Intn(4)]
			_, voted := first[who]
			if e := x.Vote(who, v); e == api.OK {
				if voted || stakes[who] == 0 {
					t.Fatal("counted", who)
				}
				first[who] = v
			}
			y.Vote(who, b)
		}
		sums, any := map[api.Digest]uint64{}, uint64(0)
		for who, v := range first {
			sums[v] += stakes[who]
			any += stakes[who]
		}
		quorums := 0
		for _, v := range []api.Digest{a, b, {}} {
			if x.For(v) != sums[v] || x.Third(v) != votes.More(sums[v], all) {
				t.Fatal(v, x.For(v), sums[v])
			}
			if votes.Great(sums[v], all) {
				quorums++
				if q, ok := x.Quorum(); q != v || !ok {
					t.Fatal("Quorum", q, ok)
				}
			}
		}
		_, ok := x.Quorum()
		if x.Any() != any || x.AnyQuorum() != votes.Great(any, all) || ok != (quorums == 1) || quorums > 1 {
			t.Fatal(x.Any(), any, ok, quorums)
		}
		p, okP := x.Quorum()
		q, okQ := y.Quorum()
		if okP && okQ && p != q {
			both++
			common := uint64(0)
			for who := range stakes {
				v, voted := x.Voted(who)
				w, votedToo := y.Voted(who)
				if voted && votedToo && v == p && w == q {
					common += stakes[who]
				}
			}
			if !votes.More(common, all) {
				t.Fatal(common, all)
			}
		}
	}
	if both == 0 {
		t.Error("never two quorums")
	}
}
