package draw_test

import (
	"crypto/sha256"
	"encoding/binary"
	"math"
	"math/rand"
	"slices"
	"testing"

	"sortition/api"
	"sortition/digest"
	"sortition/draw"
	"sortition/limb"
	"sortition/modq"
	"sortition/mont"
	"sortition/portion"
)

const top = math.MaxUint64

func some(n int) api.Digest { return api.Digest{byte(n), 3, 31: byte(n >> 8)} }

// seed is a Seed as the promise tells it, byte by byte.
func seed(epoch uint64, prev api.Digest, sum api.Nat, who []int) api.Digest {
	var all []byte
	for _, w := range who {
		all = binary.BigEndian.AppendUint64(all, uint64(w))
	}
	var b []byte
	for _, x := range [][]byte{[]byte("seed"), binary.BigEndian.AppendUint64(nil, epoch), prev[:], limb.Bytes(sum), all} {
		b = binary.BigEndian.AppendUint64(b, uint64(len(x)))
		b = append(b, x...)
	}
	return sha256.Sum256(b)
}

func TestSeeds(t *testing.T) {
	seen := map[api.Digest]int{}
	for i, c := range []struct {
		epoch uint64
		prev  api.Digest
		sum   api.Nat
		who   []int
	}{
		{0, api.Digest{}, api.Nat{}, nil},
		{1, api.Digest{}, api.Nat{}, nil},
		{top, api.Digest{}, api.Nat{}, nil},
		{0, some(1), api.Nat{}, nil},
		{0, some(1), api.Nat{1}, nil},
		{0, some(1), api.Nat{top, top, top, top}, nil},
		{0, some(1), api.Nat{1}, []int{0}},
		{0, some(1), api.Nat{1}, []int{0, 1, 2}},
		{0, some(1), api.Nat{1}, []int{2, 1, 0}},
		{0, some(1), api.Nat{1}, []int{-1, math.MinInt, math.MaxInt}},
		{5, some(300), api.Nat{1, 2, 3, 4}, []int{7}},
	} {
		before := slices.Clone(c.who)
		got := draw.Seed(c.epoch, c.prev, c.sum, c.who)
		if got != seed(c.epoch, c.prev, c.sum, c.who) || !slices.Equal(c.who, before) {
			t.Error(i, got)
		}
		if k, ok := seen[got]; ok {
			t.Error("one seed", i, k)
		}
		seen[got] = i
	}
}

func TestSums(t *testing.T) {
	r := rand.New(rand.NewSource(29))
	for _, m := range []api.Nat{{11}, {15}, {top, top, top, top}} {
		q, e := mont.New(m)
		if e != api.OK {
			t.Fatal(e)
		}
		for n := range 6 {
			l := make([]api.Nat, n)
			for i := range l {
				l[i] = api.Nat{r.Uint64(), r.Uint64(), r.Uint64(), r.Uint64()}
			}
			before := slices.Clone(l)
			if got := draw.Sum(q, l); got != modq.Sum(q, l...) || !slices.Equal(l, before) {
				t.Error(m, n, got)
			}
		}
	}
	q, _ := mont.New(limb.Small(11))
	if draw.Sum(q, nil) != (api.Nat{}) || draw.Sum(q, []api.Nat{{7}, {8}, {20}}) != limb.Small(2) {
		t.Error("Sum")
	}
}

func TestOrders(t *testing.T) {
	for n := range 201 {
		want, _ := digest.New(some(n)).Shuffle(n)
		if got, e := draw.Order(some(n), n); !slices.Equal(got, want) || e != api.OK {
			t.Fatal(n, got, e)
		}
	}
	for _, n := range []int{-1, 201, math.MinInt, math.MaxInt} {
		if got, e := draw.Order(some(1), n); len(got) != 0 || e != api.ErrArg {
			t.Error(n, got, e)
		}
	}
}

func TestLeaders(t *testing.T) {
	for k, counts := range [][]int{{1}, {2, 0, 1}, {0, 5}, {3, 3, 3, 3}, {200}, {100, 0, 100}, slices.Repeat([]int{5}, 40)} {
		owners, _ := portion.Owners(counts)
		order, _ := digest.New(some(k)).Shuffle(len(owners))
		for _, n := range []int{0, 1, 2, 3, len(owners) - 1, len(owners), len(owners) + 1, 2*len(owners) + 1, 999, 1000} {
			before := slices.Clone(counts)
			got, e := draw.Leaders(some(k), counts, n)
			if len(got) != n || e != api.OK || !slices.Equal(counts, before) {
				t.Fatal(k, n, got, e)
			}
			for i, who := range got {
				if who != owners[order[i%len(order)]] {
					t.Fatal(k, n, i, who)
				}
			}
		}
	}
}

func TestLeadersErrors(t *testing.T) {
	for i, c := range []struct {
		counts []int
		n      int
		e      api.Errno
	}{
		{[]int{0, 0}, 3, api.ErrZero},
		{[]int{0, 0}, 1, api.ErrZero},
		{[]int{0, 0}, 1000, api.ErrZero},
		{[]int{0, 0}, 1001, api.ErrLong},
		{[]int{0, 0}, -1, api.ErrLong},
		{[]int{0, 0}, 0, api.OK},
		{nil, 0, api.OK},
		{nil, 1, api.ErrZero},
		{[]int{1}, 1001, api.ErrLong},
		{[]int{1}, -1, api.ErrLong},
		{[]int{1}, math.MinInt, api.ErrLong},
		{[]int{1}, math.MaxInt, api.ErrLong},
		{[]int{-1}, 1, api.ErrArg},
		{[]int{-1}, 1001, api.ErrArg}, // ahead of ErrLong
		{[]int{201}, 0, api.ErrArg},
		{[]int{150, 51}, 5, api.ErrArg},
		{make([]int, 41), 5, api.ErrArg},
		{make([]int, 41), 1001, api.ErrArg},
	} {
		if got, e := draw.Leaders(some(1), c.counts, c.n); len(got) != 0 || e != c.e {
			t.Error(i, got, e)
		}
	}
}

func TestFirst(t *testing.T) {
	want := some(9)
	for epochs := range 105 {
		if got := draw.First(some(9), epochs); got != want {
			t.Fatal(epochs)
		}
		if epochs < 100 {
			want = seed(uint64(epochs), want, api.Nat{}, nil)
		}
	}
	for _, epochs := range []int{101, 1000, math.MaxInt} {
		if draw.First(some(9), epochs) != want {
			t.Error(epochs)
		}
	}
	for _, epochs := range []int{0, -1, math.MinInt} {
		if draw.First(some(9), epochs) != some(9) {
			t.Error(epochs)
		}
	}
}

// TestFollows: in as many leads as there are slots each has as many as it has slots.
func TestFollows(t *testing.T) {
	r := rand.New(rand.NewSource(30))
	unlike := false
	for k := range 100 {
		counts := make([]int, 1+r.Intn(12))
		slots := 0
		for who := range counts {
			counts[who] = r.Intn(8)
			slots += counts[who]
		}
		if slots == 0 {
			continue
		}
		leaders, e := draw.Leaders(some(k), counts, slots)
		leads := make([]int, len(counts))
		for _, who := range leaders {
			leads[who]++
		}
		if !slices.Equal(leads, counts) || e != api.OK {
			t.Fatal(counts, leaders, e)
		}
		other, _ := draw.Leaders(some(k+1000), counts, slots)
		unlike = unlike || !slices.Equal(leaders, other)
	}
	if !unlike {
		t.Error("one order, whatever the seed")
	}
}
