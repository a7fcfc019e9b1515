package pool_test

import (
	"bytes"
	"math"
	"math/rand"
	"slices"
	"testing"

	"sortition/api"
	"sortition/codec"
	"sortition/digest"
	"sortition/pool"
)

func same(a, b [][]byte) bool { return slices.EqualFunc(a, b, bytes.Equal) }

func txs(l ...string) [][]byte {
	var out [][]byte
	for _, s := range l {
		out = append(out, []byte(s))
	}
	return out
}

func waits(t *testing.T, p *pool.Pool, l ...string) {
	t.Helper()
	if !same(p.All(), txs(l...)) || p.Len() != len(l) {
		t.Errorf("%q, %d; want %q", p.All(), p.Len(), l)
	}
	for n := -2; n <= len(l)+2; n++ {
		want := l[:min(max(n, 0), len(l))]
		if got := p.First(n); !same(got, txs(want...)) {
			t.Errorf("First %d: %q; want %q", n, got, want)
		}
	}
	if len(p.First(math.MinInt)) != 0 || !same(p.First(math.MaxInt), txs(l...)) {
		t.Error("far")
	}
}

func TestExample(t *testing.T) {
	var p pool.Pool
	waits(t, &p)
	for i, c := range []struct {
		tx string
		e  api.Errno
	}{{"a", api.OK}, {"b", api.OK}, {"a", api.ErrSame}, {"b", api.ErrSame}} {
		if e := p.Add([]byte(c.tx)); e != c.e {
			t.Error(i, e)
		}
	}
	waits(t, &p, "a", "b")
	if n := p.Done(txs("a", "c")); n != 1 {
		t.Error(n)
	}
	if e := p.Add([]byte("c")); e != api.ErrSame {
		t.Error(e)
	}
	waits(t, &p, "b")
}

func TestAdds(t *testing.T) {
	var p pool.Pool
	for _, n := range []int{0, 1001, 5000} {
		if e := p.Add(make([]byte, n)); e != api.ErrLong {
			t.Error(n, e)
		}
	}
	if e := p.Add(nil); e != api.ErrLong {
		t.Error(e)
	}
	waits(t, &p)
	for _, n := range []int{1, 999, 1000} {
		if e := p.Add(make([]byte, n)); e != api.OK {
			t.Error(n, e)
		}
	}
	if p.Len() != 3 {
		t.Error(p.Len())
	}
}

func TestFull(t *testing.T) {
	var p pool.Pool
	for i := range 30 {
		if e := p.Add([]byte{byte(i), 1}); e != api.OK {
			t.Fatal(i, e)
		}
	}
	p.Done(txs("gone"))
	for i, c := range []struct {
		tx []byte
		e  api.Errno
	}{{[]byte("more"), api.ErrFull}, {[]byte{29, 1}, api.ErrSame}, {[]byte("gone"), api.ErrSame}, {nil, api.ErrLong}, {make([]byte, 1001), api.ErrLong}} {
		if e := p.Add(c.tx); e != c.e || p.Len() != 30 {
			t.Error(i, e, p.Len())
		}
	}
	if n := p.Done([][]byte{{7, 1}}); n != 1 || p.Add([]byte("more")) != api.OK || p.Add([]byte("most")) != api.ErrFull {
		t.Error("the place that came free", n)
	}
	all := p.All()
	if !bytes.Equal(all[7], []byte{8, 1}) || !bytes.Equal(all[29], []byte("more")) {
		t.Error("order")
	}
}

func TestDone(t *testing.T) {
	var p pool.Pool
	for _, tx := range txs("a", "b", "c", "d", "e") {
		p.Add(tx)
	}
	l := txs("d", "x", "b", "d", "b", "x")
	if n := p.Done(l); n != 2 || !same(l, txs("d", "x", "b", "d", "b", "x")) {
		t.Error(n, l)
	}
	waits(t, &p, "a", "c", "e")
	for tx, want := range map[string]bool{"a": false, "b": true, "c": false, "d": true, "e": false, "x": true, "y": false, "": false, "dx": false} {
		if p.Was([]byte(tx)) != want {
			t.Error(tx)
		}
	}
	if n := p.Done(txs("b", "d", "x")); n != 0 {
		t.Error(n)
	}
	if n := p.Done(nil); n != 0 {
		t.Error(n)
	}
	long := make([]byte, 5000)
	if n := p.Done([][]byte{{}, long}); n != 0 || !p.Was(nil) || !p.Was(long) || p.Was(long[1:]) {
		t.Error("what never waits", n)
	}
	if e := p.Add(nil); e != api.ErrLong {
		t.Error(e)
	}
	waits(t, &p, "a", "c", "e")
}

func TestPacks(t *testing.T) {
	ten := txs("0", "1", "2", "3", "4", "5", "6", "7", "8", "9")
	for i, c := range []struct {
		height uint64
		l      [][]byte
		e      api.Errno
	}{
		{0, nil, api.OK},
		{7, txs("a", "b"), api.OK},
		{math.MaxUint64, ten, api.OK},
		{7, append(slices.Clone(ten), []byte("10")), api.ErrLong},
		{7, append(slices.Clone(ten), []byte("9")), api.ErrLong},
		{7, [][]byte{make([]byte, 1000), {1}}, api.OK},
		{7, [][]byte{make([]byte, 1001), {1}}, api.ErrLong},
		{7, [][]byte{{1}, {}}, api.ErrLong},
		{7, [][]byte{nil}, api.ErrLong},
		{7, txs("a", "b", "a"), api.ErrSame},
		{7, txs("a", "a", ""), api.ErrLong},
		{7, txs("b", "a", "a"), api.ErrSame},
	} {
		var w codec.Writer
		w.Small(c.height)
		w.Small(uint64(len(c.l)))
		for _, tx := range c.l {
			w.Bytes(tx)
		}
		b, e := pool.Pack(c.height, c.l)
		if e != c.e || e == api.OK && !bytes.Equal(b, w.Out()) || e != api.OK && len(b) != 0 {
			t.Error(i, b, e)
		}
		if e != api.OK {
			continue
		}
		before := bytes.Clone(b)
		height, l, e := pool.Unpack(b)
		if height != c.height || !same(l, c.l) || e != api.OK || !bytes.Equal(b, before) {
			t.Error(i, height, l, e)
		}
		for cut := range b {
			if height, l, e := pool.Unpack(b[:cut]); height != 0 || len(l) != 0 || e != api.ErrShort {
				t.Error(i, cut, e)
			}
		}
		if height, l, e := pool.Unpack(append(b, 0)); height != 0 || len(l) != 0 || e != api.ErrTail {
			t.Error(i, e)
		}
	}
}

func TestUnpackErrors(t *testing.T) {
	write := func(f func(w *codec.Writer)) []byte {
		var w codec.Writer
		f(&w)
		return w.Out()
	}
	list := func(l ...string) []byte {
		return write(func(w *codec.Writer) {
			w.Small(7)
			w.Small(uint64(len(l)))
			for _, s := range l {
				w.Bytes([]byte(s))
			}
		})
	}
	for i, c := range []struct {
		b []byte
		e api.Errno
	}{
		{nil, api.ErrShort},
		{[]byte{1, 7}, api.ErrShort},
		{[]byte{9}, api.ErrShape},
		{[]byte{1, 0, 0}, api.ErrShape},
		{list("a", ""), api.ErrShape},
		{list(""), api.ErrShape},
		{list("a", "b", "a"), api.ErrShape},
		{list("", ""), api.ErrShape},
		{append(list("a", "a"), 1), api.ErrTail},
		{append(list(""), 1), api.ErrTail},
		{list("a", "a")[:6], api.ErrShort},
		{list("0", "1", "2", "3", "4", "5", "6", "7", "8", "9"), api.OK},
		{list("0", "1", "2", "3", "4", "5", "6", "7", "8", "9", "a"), api.ErrLong},
		{list(string(make([]byte, 1000))), api.OK},
		{list(string(make([]byte, 1001))), api.ErrLong},
		{list("a", string(make([]byte, 1001))), api.ErrLong},
		{[]byte{1, 7, 8, 255, 255, 255, 255, 255, 255, 255, 255}, api.ErrLong},
	} {
		height, l, e := pool.Unpack(c.b)
		if e != c.e || e != api.OK && (height != 0 || len(l) != 0) {
			t.Error(i, height, l, e)
		}
	}
}

func TestNames(t *testing.T) {
	for _, b := range [][]byte{nil, {0}, {0, 0}, make([]byte, 3000)} {
		if pool.Name(b) != digest.Tagged("block", b) {
			t.Error(len(b))
		}
	}
}

// TestFollows: what was done is never first again, and what is unpacked is packed so alone.
func TestFollows(t *testing.T) {
	r := rand.New(rand.NewSource(26))
	for range 100 {
		var p pool.Pool
		done := map[string]bool{}
		var want []string
		for range 200 {
			tx := string([]byte{byte(r.Intn(60))})
			if r.Intn(4) > 0 {
				e := p.Add([]byte(tx))
				switch {
				case done[tx] || slices.Contains(want, tx):
					if e != api.ErrSame {
						t.Fatal(e)
					}
				case len(want) == 30:
					if e != api.ErrFull {
						t.Fatal(e)
					}
				default:
					want = append(want, tx)
				}
			} else {
				done[tx] = true
				had := len(want)
				want = slices.DeleteFunc(want, func(s string) bool { return s == tx })
				if n := p.Done(txs(tx, tx)); n != had-len(want) {
					t.Fatal(n)
				}
			}
			if !same(p.All(), txs(want...)) || p.Was([]byte(tx)) != done[tx] {
				t.Fatal(p.All(), want)
			}
		}
	}
	read := 0
	for range 60000 {
		b := make([]byte, r.Intn(9))
		for i := range b {
			b[i] = byte(r.Intn(3))
		}
		height, l, e := pool.Unpack(b)
		if e != api.OK {
			continue
		}
		read++
		if again, e := pool.Pack(height, l); !bytes.Equal(again, b) || e != api.OK {
			t.Fatal(b, again, e)
		}
	}
	if read < 100 {
		t.Error(read)
	}
}
