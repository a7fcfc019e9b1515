package journal_test

import (
	"bytes"
	"crypto/sha256"
	"encoding/binary"
	"math"
	"math/rand"
	"slices"
	"testing"

	"sortition/api"
	"sortition/journal"
)

// frame is a frame as the promise tells it.
func frame(b []byte) []byte {
	out := binary.BigEndian.AppendUint32(nil, uint32(len(b)))
	d := sha256.Sum256(slices.Concat(out, b))
	return slices.Concat(out, d[:4], b)
}

func same(a, b [][]byte) bool { return slices.EqualFunc(a, b, bytes.Equal) }

// records are of many lengths.
func records() [][]byte {
	r := rand.New(rand.NewSource(19))
	var l [][]byte
	for _, n := range []int{2, 0, 1, 255, 256, 3, 4000, 0, 7} {
		b := make([]byte, n)
		r.Read(b)
		l = append(l, b)
	}
	return l
}

func disk(l [][]byte) []byte {
	var out []byte
	for _, b := range l {
		out = append(out, frame(b)...)
	}
	return out
}

func TestFrames(t *testing.T) {
	for _, b := range append(records(), nil) {
		before := bytes.Clone(b)
		if f, e := journal.Frame(b); !bytes.Equal(f, frame(b)) || e != api.OK || !bytes.Equal(b, before) {
			t.Error(len(b), f, e)
		}
	}
	for _, n := range []int{4001, 5000, 70000} {
		if f, e := journal.Frame(make([]byte, n)); len(f) != 0 || e != api.ErrLong {
			t.Error(n, e)
		}
	}
}

func TestReplays(t *testing.T) {
	all := disk(records())
	ends := []int{0}
	for _, b := range records() {
		ends = append(ends, ends[len(ends)-1]+len(frame(b)))
	}
	for cut := range len(all) + 1 {
		whole := 0
		for whole+1 < len(ends) && ends[whole+1] <= cut {
			whole++
		}
		if cut > 600 && cut < 4500 && cut%50 != 0 {
			continue
		}
		before := bytes.Clone(all)
		l, good := journal.Replay(all[:cut])
		if !same(l, records()[:whole]) || good != ends[whole] || !bytes.Equal(all, before) {
			t.Fatal(cut, len(l), good)
		}
	}
	if l, good := journal.Replay(nil); len(l) != 0 || good != 0 {
		t.Error(l, good)
	}
}

func TestReplaysSpoilt(t *testing.T) {
	l := [][]byte{{1, 2}, {3, 4, 5}, {6}}
	for at := range disk(l) {
		for bit := range 8 {
			spoilt := disk(l)
			spoilt[at] ^= 1 << bit
			whole := 0
			switch {
			case at >= 21:
				whole = 2
			case at >= 10:
				whole = 1
			}
			got, good := journal.Replay(spoilt)
			if !same(got, l[:whole]) || good != len(disk(l[:whole])) {
				t.Fatal(at, bit, got, good)
			}
		}
	}
	long := make([]byte, 4001)
	for _, tail := range [][]byte{frame(long), frame(make([]byte, 70000)), bytes.Repeat([]byte{255}, 5000), make([]byte, 5000), {0, 0, 0, 0}, {255, 255, 255, 255, 0, 0, 0, 0}} {
		got, good := journal.Replay(slices.Concat(disk(l), tail, disk(l)))
		if !same(got, l) || good != len(disk(l)) {
			t.Error(len(tail), len(got), good)
		}
	}
}

func TestOpens(t *testing.T) {
	l := records()
	for _, tail := range [][]byte{nil, {0}, frame([]byte("abc"))[:10], bytes.Repeat([]byte{9}, 100)} {
		j := journal.Open(append(disk(l), tail...))
		if !bytes.Equal(j.Disk(), disk(l)) || !same(j.Records(), l) || j.Len() != len(l) {
			t.Error(len(tail), len(j.Disk()), j.Len())
		}
		if e := j.Append([]byte("more")); e != api.OK || !same(j.Records(), append(slices.Clone(l), []byte("more"))) {
			t.Error(len(tail), e, j.Len())
		}
	}
	j := journal.Open(nil)
	if len(j.Disk()) != 0 || len(j.Records()) != 0 || j.Len() != 0 {
		t.Error(j.Disk())
	}
	if j := journal.Open([]byte{1, 2, 3}); len(j.Disk()) != 0 || j.Len() != 0 {
		t.Error(j.Disk())
	}
}

func TestAppends(t *testing.T) {
	j := journal.Open(nil)
	for i, b := range records() {
		before := bytes.Clone(b)
		if e := j.Append(b); e != api.OK || !bytes.Equal(b, before) {
			t.Fatal(i, e)
		}
		if !bytes.Equal(j.Disk(), disk(records()[:i+1])) || !same(j.Records(), records()[:i+1]) || j.Len() != i+1 {
			t.Fatal(i, j.Len())
		}
	}
	if e := j.Append(make([]byte, 4001)); e != api.ErrLong || !bytes.Equal(j.Disk(), disk(records())) {
		t.Error(e)
	}
	if e := j.Append(nil); e != api.OK || j.Len() != len(records())+1 {
		t.Error(e, j.Len())
	}
}

func TestTorn(t *testing.T) {
	b := []byte{5, 6, 7}
	for _, n := range []int{math.MinInt, -1, 0, 1, 4, 7, 8, 10, 11, 12, 1000, math.MaxInt} {
		j := journal.Open(nil)
		j.Append([]byte{1, 2})
		j.Append(nil)
		was := j.Disk()
		e := j.Torn(b, n)
		part := frame(b)[:min(max(n, 0), 11)]
		if e != api.OK || !bytes.Equal(j.Disk(), slices.Concat(was, part)) {
			t.Error(n, e, j.Disk())
		}
		want := [][]byte{{1, 2}, nil}
		if n >= 11 {
			want = append(want, b)
		}
		if !same(j.Records(), want) || j.Len() != len(want) {
			t.Error(n, j.Records())
		}
		again := journal.Open(j.Disk())
		if !same(again.Records(), want) || again.Len() != len(want) || !bytes.Equal(again.Disk(), disk(want)) {
			t.Error("again", n, again.Records())
		}
		j.Append([]byte{8})
		l, good := journal.Replay(j.Disk())
		if !bytes.Equal(j.Disk(), slices.Concat(was, part, frame([]byte{8}))) || !same(j.Records(), l) || good > len(j.Disk()) {
			t.Error("behind", n, j.Records())
		}
	}
	j := journal.Open(nil)
	for _, n := range []int{-1, 0, 5, 9000} {
		if e := j.Torn(make([]byte, 4001), n); e != api.ErrLong || len(j.Disk()) != 0 {
			t.Error(n, e)
		}
	}
}

// TestTornThenWhole: what stands behind a torn frame is no record.
func TestTornThenWhole(t *testing.T) {
	j := journal.Open(nil)
	j.Torn([]byte{1}, 3)
	j.Append([]byte{2})
	if j.Len() != 0 || len(j.Records()) != 0 {
		t.Error(j.Records())
	}
	j = journal.Open(nil)
	j.Torn(nil, 4) // a length
	j.Torn(nil, 4) // stands where the digest is awaited
	if j.Len() != 0 {
		t.Error(j.Records())
	}
}
