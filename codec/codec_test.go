package codec_test

import (
	"bytes"
	"encoding/binary"
	"math"
	"math/rand"
	"slices"
	"testing"

	"sortition/api"
	"sortition/codec"
	"sortition/limb"
)

const top = math.MaxUint64

// small is a small number as the chapter's Words write it.
func small(n uint64) []byte {
	b := bytes.TrimLeft(binary.BigEndian.AppendUint64(nil, n), "\x00")
	return append([]byte{byte(len(b))}, b...)
}

func numbers() []uint64 {
	l := []uint64{0, top}
	for i := range 64 {
		l = append(l, 1<<i, 1<<i-1, 1<<i+1)
	}
	return l
}

func nats() []api.Nat {
	return []api.Nat{{}, {1}, {top, top, top, top}, {0, 0, 0, 1 << 63}, {1, 2, 3, 4}}
}

func TestWrites(t *testing.T) {
	var zero codec.Writer
	if len(zero.Out()) != 0 {
		t.Error(zero.Out())
	}
	for _, n := range numbers() {
		var w codec.Writer
		w.Small(n)
		if !bytes.Equal(w.Out(), small(n)) {
			t.Error("Small", n, w.Out())
		}
	}
	for _, a := range nats() {
		var w codec.Writer
		w.Nat(a)
		if !bytes.Equal(w.Out(), limb.Bytes(a)) {
			t.Error("Nat", a, w.Out())
		}
	}
	for _, n := range []int{0, 1, 2, 255, 256, 70000} {
		b := bytes.Repeat([]byte{7}, n)
		var w codec.Writer
		w.Bytes(b)
		if !bytes.Equal(w.Out(), append(small(uint64(n)), b...)) {
			t.Error("Bytes", n)
		}
	}
	for n := range 5 {
		var w codec.Writer
		w.Nats(nats()[:n])
		want := small(uint64(n))
		for _, a := range nats()[:n] {
			want = append(want, limb.Bytes(a)...)
		}
		if !bytes.Equal(w.Out(), want) {
			t.Error("Nats", n)
		}
	}
}

func TestWritesOn(t *testing.T) {
	var w codec.Writer
	w.Small(0)
	w.Small(300)
	w.Bytes([]byte{7})
	if !bytes.Equal(w.Out(), []byte{0, 2, 1, 44, 1, 1, 7}) {
		t.Error(w.Out())
	}
	w.Nats(nil)
	w.Bytes(nil)
	w.Nat(limb.Small(5))
	want := append([]byte{0, 2, 1, 44, 1, 1, 7, 0, 0}, limb.Bytes(limb.Small(5))...)
	if !bytes.Equal(w.Out(), want) || !bytes.Equal(w.Out(), want) {
		t.Error(w.Out())
	}
}

func TestReadsSmall(t *testing.T) {
	for i, c := range []struct {
		b     []byte
		limit uint64
		want  uint64
		e     api.Errno
	}{
		{nil, 9, 0, api.ErrShort},
		{[]byte{0}, 9, 0, api.OK},
		{[]byte{0}, 0, 0, api.OK},
		{[]byte{1}, 9, 0, api.ErrShort},
		{[]byte{1, 0}, 9, 0, api.ErrShape},
		{[]byte{1, 9}, 8, 0, api.ErrLong},
		{[]byte{1, 9}, 9, 9, api.OK},
		{[]byte{1, 255}, top, 255, api.OK},
		{[]byte{2, 1, 44}, 300, 300, api.OK},
		{[]byte{2, 1, 44}, 299, 0, api.ErrLong},
		{[]byte{2, 0, 44}, 300, 0, api.ErrShape},
		{[]byte{2, 0, 44}, 3, 0, api.ErrShape}, // ahead of ErrLong
		{[]byte{2, 0}, 300, 0, api.ErrShort},   // ahead of the 0 that is there
		{[]byte{2, 1}, 0, 0, api.ErrShort},
		{[]byte{8, 255, 255, 255, 255, 255, 255, 255, 255}, top, top, api.OK},
		{[]byte{8, 255, 255, 255, 255, 255, 255, 255, 255}, top - 1, 0, api.ErrLong},
		{[]byte{8, 1, 0, 0, 0, 0, 0, 0, 0}, top, 1 << 56, api.OK},
		{[]byte{8, 1, 0, 0, 0, 0, 0, 0}, top, 0, api.ErrShort},
		{[]byte{9, 1, 0, 0, 0, 0, 0, 0, 0, 0}, top, 0, api.ErrShape},
		{[]byte{9}, top, 0, api.ErrShape}, // ahead of what it lacks
		{[]byte{255}, 9, 0, api.ErrShape},
	} {
		r := codec.New(c.b)
		if got, e := r.Small(c.limit), r.End(); got != c.want || e != c.e {
			t.Error(i, got, e)
		}
	}
}

func TestReadsNat(t *testing.T) {
	for _, a := range nats() {
		r := codec.New(limb.Bytes(a))
		if got, e := r.Nat(), r.End(); got != a || e != api.OK {
			t.Error(a, got, e)
		}
	}
	ones := bytes.Repeat([]byte{1}, 33)
	for n, want := range map[int]api.Errno{0: api.ErrShort, 1: api.ErrShort, 31: api.ErrShort, 32: api.OK, 33: api.ErrTail} {
		r := codec.New(ones[:n])
		a := r.Nat()
		if e := r.End(); e != want || (a == api.Nat{}) != (n < 32) {
			t.Error(n, a, e)
		}
	}
}

func TestReadsBytes(t *testing.T) {
	for i, c := range []struct {
		b    []byte
		most int
		want []byte
		e    api.Errno
	}{
		{nil, 9, nil, api.ErrShort},
		{nil, -1, nil, api.ErrLong}, // at once
		{[]byte{9}, -1, nil, api.ErrLong},
		{[]byte{0}, math.MinInt, nil, api.ErrLong},
		{[]byte{0}, 0, nil, api.OK},
		{[]byte{1, 1, 7}, 0, nil, api.ErrLong},
		{[]byte{1, 1, 7}, 1, []byte{7}, api.OK},
		{[]byte{1, 1}, 1, nil, api.ErrShort},
		{[]byte{1, 3, 7, 8, 9}, 3, []byte{7, 8, 9}, api.OK},
		{[]byte{1, 3, 7, 8, 9}, 2, nil, api.ErrLong},
		{[]byte{1, 3, 7, 8}, 2, nil, api.ErrLong},
		{[]byte{1, 3, 7, 8}, 3, nil, api.ErrShort},
		{[]byte{1, 3, 7, 8, 9, 0}, 3, []byte{7, 8, 9}, api.ErrTail},
		{[]byte{1, 0}, 3, nil, api.ErrShape},
		{[]byte{9}, 3, nil, api.ErrShape},
		{[]byte{8, 127, 255, 255, 255, 255, 255, 255, 255, 1}, math.MaxInt, nil, api.ErrShort},
		{[]byte{8, 255, 255, 255, 255, 255, 255, 255, 255, 1}, math.MaxInt, nil, api.ErrLong},
	} {
		r := codec.New(c.b)
		if got, e := r.Bytes(c.most), r.End(); !bytes.Equal(got, c.want) || e != c.e {
			t.Error(i, got, e)
		}
	}
}

func TestReadsNats(t *testing.T) {
	one := limb.Bytes(limb.Small(1))
	two := slices.Concat([]byte{1, 2}, one, one)
	for i, c := range []struct {
		b    []byte
		most int
		want int
		e    api.Errno
	}{
		{nil, 9, 0, api.ErrShort},
		{nil, -1, 0, api.ErrLong},
		{two, -5, 0, api.ErrLong},
		{[]byte{0}, 0, 0, api.OK},
		{two, 2, 2, api.OK},
		{two, math.MaxInt, 2, api.OK},
		{two, 1, 0, api.ErrLong},
		{two[:65], 2, 0, api.ErrShort},
		{two[:34], 2, 0, api.ErrShort},
		{two[:2], 2, 0, api.ErrShort},
		{two[:1], 2, 0, api.ErrShort},
		{append(slices.Clone(two), 0), 2, 2, api.ErrTail},
		{append([]byte{1, 0}, one...), 2, 0, api.ErrShape},
		{[]byte{8, 8, 0, 0, 0, 0, 0, 0, 0, 1}, math.MaxInt, 0, api.ErrShort}, // by thirty-two that leaves an int
		{[]byte{8, 4, 0, 0, 0, 0, 0, 0, 0, 1}, math.MaxInt, 0, api.ErrShort},
	} {
		r := codec.New(c.b)
		got, e := r.Nats(c.most), r.End()
		if !slices.Equal(got, slices.Repeat([]api.Nat{{1}}, c.want)) || e != c.e {
			t.Error(i, got, e)
		}
	}
}

// TestFirstErrorStays: behind an error all that is read is 0, or nothing, whatever stands there.
func TestFirstErrorStays(t *testing.T) {
	rest := bytes.Repeat([]byte{1}, 100)
	for i, c := range []struct {
		b    []byte
		fail func(r *codec.Reader)
		e    api.Errno
	}{
		{[]byte{1, 0}, func(r *codec.Reader) { r.Small(9) }, api.ErrShape},
		{[]byte{1, 9}, func(r *codec.Reader) { r.Small(8) }, api.ErrLong},
		{[]byte{1, 9}, func(r *codec.Reader) { r.Bytes(8) }, api.ErrLong},
		{[]byte{2, 9, 9}, func(r *codec.Reader) { r.Bytes(5000) }, api.ErrShort},
		{[]byte{1, 9}, func(r *codec.Reader) { r.Nats(9) }, api.ErrShort},
		{nil, func(r *codec.Reader) { r.Bytes(-1) }, api.ErrLong},
		{nil, func(r *codec.Reader) { r.Nats(-1) }, api.ErrLong},
	} {
		r := codec.New(append(c.b, rest...))
		c.fail(r)
		for range 2 {
			if r.Small(top) != 0 || r.Nat() != (api.Nat{}) || len(r.Bytes(5)) != 0 || len(r.Nats(5)) != 0 || len(r.Bytes(-1)) != 0 || len(r.Nats(-1)) != 0 || r.Small(0) != 0 {
				t.Error("something was read", i)
			}
			if r.End() != c.e || r.End() != c.e {
				t.Error(i, r.End())
			}
		}
	}
	r := codec.New(make([]byte, 31))
	r.Nat()
	if r.Small(9) != 0 || r.End() != api.ErrShort {
		t.Error(r.End())
	}
}

func TestEnd(t *testing.T) {
	if e := codec.New(nil).End(); e != api.OK {
		t.Error(e)
	}
	r := codec.New([]byte{1, 5, 1, 6})
	if e := r.End(); e != api.ErrTail {
		t.Error(e)
	}
	if a, e := r.Small(9), r.End(); a != 5 || e != api.ErrTail {
		t.Error(a, e)
	}
	if a, e := r.Small(9), r.End(); a != 6 || e != api.OK {
		t.Error(a, e)
	}
	if a, e := r.Small(9), r.End(); a != 0 || e != api.ErrShort {
		t.Error(a, e)
	}
}

// TestFollows: what is written is read, and breaks off wherever it is cut.
func TestFollows(t *testing.T) {
	r := rand.New(rand.NewSource(11))
	for range 300 {
		n := r.Uint64() >> r.Intn(64)
		a := api.Nat{r.Uint64(), r.Uint64(), r.Uint64(), r.Uint64()}
		b := make([]byte, r.Intn(40))
		r.Read(b)
		l := slices.Repeat([]api.Nat{a}, r.Intn(4))
		var w codec.Writer
		w.Small(n)
		w.Bytes(b)
		w.Nat(a)
		w.Nats(l)
		out := w.Out()
		before := bytes.Clone(out)
		for cut := range len(out) + 1 {
			x := codec.New(out[:cut])
			gn, gb, ga, gl := x.Small(n), x.Bytes(len(b)), x.Nat(), x.Nats(len(l))
			e := x.End()
			if cut < len(out) {
				if e != api.ErrShort || len(gl) != 0 {
					t.Fatal("cut", cut, e)
				}
			} else if gn != n || ga != a || !bytes.Equal(gb, b) || !slices.Equal(gl, l) || e != api.OK {
				t.Fatal("whole", gn, gb, ga, gl, e)
			}
		}
		if !bytes.Equal(out, before) {
			t.Fatal("what was handed in changed")
		}
	}
}

// TestOneWay: of all short lists of bytes what is read without an error is written so.
func TestOneWay(t *testing.T) {
	r := rand.New(rand.NewSource(12))
	read := 0
	for range 40000 {
		b := make([]byte, r.Intn(7))
		for i := range b {
			b[i] = byte(r.Intn(5))
		}
		x := codec.New(b)
		n, l := x.Small(top), x.Bytes(9)
		if x.End() != api.OK {
			continue
		}
		read++
		var w codec.Writer
		w.Small(n)
		w.Bytes(l)
		if !bytes.Equal(w.Out(), b) {
			t.Fatal(b, w.Out())
		}
	}
	if read < 100 {
		t.Error(read)
	}
}
