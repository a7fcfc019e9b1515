package timer_test

import (
	"math"
	"math/rand"
	"slices"
	"testing"

	"sortition/api"
	"sortition/timer"
)

func ids(l []timer.Item) []int {
	var out []int
	for _, x := range l {
		out = append(out, x.Id)
	}
	return out
}

func TestExamples(t *testing.T) {
	var q timer.Queue
	q.Add(5, 1)
	q.Add(3, 2)
	q.Add(5, 3)
	if x, e := q.Next(); x != (timer.Item{At: 3, Id: 2}) || e != api.OK {
		t.Error(x, e)
	}
	if l := q.Due(5); !slices.Equal(l, []timer.Item{{At: 5, Id: 1}, {At: 5, Id: 3}}) || q.Len() != 0 {
		t.Error(l)
	}
	q.Add(1, 7)
	q.Add(2, 7)
	if n := q.Cancel(7); n != 2 {
		t.Error(n)
	}
	if x, e := q.Next(); x != (timer.Item{}) || e != api.ErrNone {
		t.Error(x, e)
	}
}

func TestZero(t *testing.T) {
	var q timer.Queue
	if q.Len() != 0 || len(q.All()) != 0 || len(q.Due(math.MaxUint64)) != 0 || q.Cancel(0) != 0 {
		t.Error("not empty")
	}
	if x, e := q.Next(); x != (timer.Item{}) || e != api.ErrNone {
		t.Error(x, e)
	}
	if q.Add(0, 0) != api.OK || q.Len() != 1 || !slices.Equal(q.All(), []timer.Item{{}}) || q.Cancel(0) != 1 || q.Len() != 0 {
		t.Error("of one")
	}
}

func TestFull(t *testing.T) {
	var q timer.Queue
	for i := range 100 {
		if e := q.Add(uint64(i%7), i); e != api.OK || q.Len() != i+1 {
			t.Fatal(i, e)
		}
	}
	all := q.All()
	for range 3 {
		if e := q.Add(0, 1000); e != api.ErrFull || q.Len() != 100 || !slices.Equal(q.All(), all) {
			t.Error(e, q.Len())
		}
	}
	q.Next()
	if q.Add(9, 1000) != api.OK || q.Add(9, 1001) != api.ErrFull {
		t.Error("the place that came free")
	}
	if n := q.Cancel(1000); n != 1 || q.Add(9, 1001) != api.OK {
		t.Error("the place that came free", n)
	}
	for i := range 250 { // not how many were ever added counts
		q.Next()
		if e := q.Add(uint64(i), i); e != api.OK {
			t.Fatal(i, e)
		}
	}
}

func TestEnds(t *testing.T) {
	var q timer.Queue
	for i, at := range []uint64{math.MaxUint64, 0, 1 << 63, 1<<63 - 1, math.MaxUint64, 0, 1} {
		q.Add(at, -i)
	}
	q.Add(2, math.MinInt)
	q.Add(2, math.MaxInt)
	want := []int{-1, -5, -6, math.MinInt, math.MaxInt, -3, -2, 0, -4}
	if got := ids(q.All()); !slices.Equal(got, want) || q.Len() != 9 {
		t.Error(got)
	}
	if got := ids(q.Due(0)); !slices.Equal(got, want[:2]) {
		t.Error(got)
	}
	if got := q.Due(0); len(got) != 0 || q.Len() != 7 {
		t.Error(got)
	}
	if got := ids(q.Due(1<<63 - 1)); !slices.Equal(got, want[2:6]) {
		t.Error(got)
	}
	if got := ids(q.Due(math.MaxUint64)); !slices.Equal(got, want[6:]) || q.Len() != 0 {
		t.Error(got)
	}
}

func TestAllIsACopy(t *testing.T) {
	var q timer.Queue
	q.Add(5, 1)
	q.Add(3, 2)
	q.Add(4, 3)
	for range 3 {
		if got := ids(q.All()); !slices.Equal(got, []int{2, 3, 1}) || q.Len() != 3 {
			t.Error(got)
		}
	}
}

// model keeps all in the order in which they were added.
type model struct{ l []timer.Item }

func (m *model) all() []timer.Item {
	l := slices.Clone(m.l)
	slices.SortStableFunc(l, func(a, b timer.Item) int {
		switch {
		case a.At < b.At:
			return -1
		case a.At > b.At:
			return 1
		}
		return 0
	})
	return l
}

// take takes those that stand first.
func (m *model) take(n int) []timer.Item {
	taken := m.all()[:n]
	for _, x := range taken { // of one time the first one added goes first, so that the first that is like it is it
		i := slices.Index(m.l, x)
		m.l = slices.Delete(m.l, i, i+1)
	}
	return taken
}

// TestFollows: what was added comes once, in order of time, whatever is asked between.
func TestFollows(t *testing.T) {
	r := rand.New(rand.NewSource(22))
	for range 100 {
		var q timer.Queue
		var m model
		for range 300 {
			switch r.Intn(8) {
			case 0, 1, 2, 3, 4:
				x := timer.Item{At: uint64(r.Intn(12)), Id: r.Intn(40)}
				want := api.OK
				if len(m.l) == 100 {
					want = api.ErrFull
				} else {
					m.l = append(m.l, x)
				}
				if e := q.Add(x.At, x.Id); e != want {
					t.Fatal("Add", e, want)
				}
			case 5:
				n := min(1, len(m.l))
				want := m.take(n)
				got, e := q.Next()
				if n == 1 && (got != want[0] || e != api.OK) || n == 0 && (got != (timer.Item{}) || e != api.ErrNone) {
					t.Fatal("Next", got, e, want)
				}
			case 6:
				now := uint64(r.Intn(6))
				n := 0
				for _, x := range m.l {
					if x.At <= now {
						n++
					}
				}
				want := m.take(n)
				if got := q.Due(now); !slices.Equal(got, want) {
					t.Fatal("Due", got, want)
				}
			case 7:
				id, had := r.Intn(40), len(m.l)
				m.l = slices.DeleteFunc(m.l, func(x timer.Item) bool { return x.Id == id })
				if n := q.Cancel(id); n != had-len(m.l) {
					t.Fatal("Cancel", n)
				}
			}
			if !slices.Equal(q.All(), m.all()) || q.Len() != len(m.l) {
				t.Fatal(q.All(), m.all())
			}
		}
	}
}
