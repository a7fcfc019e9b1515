package sha_test

import (
	"bytes"
	"crypto/sha256"
	"encoding/hex"
	"math/rand"
	"testing"

	"sortition/api"
	"sortition/sha"
)

func some(n int) []byte {
	b := make([]byte, n)
	rand.New(rand.NewSource(int64(n))).Read(b)
	return b
}

func text(d api.Digest) string { return hex.EncodeToString(d[:]) }

func TestExamples(t *testing.T) {
	if got := text(sha.New().Sum()); got != "e3b0c44298fc1c149afbf4c8996fb92427ae41e4649b934ca495991b7852b855" {
		t.Error(got)
	}
	h := sha.New()
	h.Write([]byte("a"))
	h.Write([]byte("bc"))
	if got := text(h.Sum()); got != "ba7816bf8f01cfea414140de5dae2223b00361a396177a9cb410ff61f20015ad" {
		t.Error(got)
	}
	h = sha.New()
	h.Write(bytes.Repeat([]byte("a"), 1000000))
	if got := text(h.Sum()); got != "cdc76e5c9914fb9281a1c7e284d73e67f1809a48a497200e046d39ccc7112cd0" || h.Len() != 1000000 {
		t.Error(got, h.Len())
	}
}

func TestDigests(t *testing.T) {
	for n := range 400 {
		b := some(n)
		before := bytes.Clone(b)
		if got := sha.Of(b); got != sha256.Sum256(b) {
			t.Fatal("Of", n)
		}
		h := sha.New()
		h.Write(b)
		if h.Sum() != sha256.Sum256(b) || h.Len() != uint64(n) || !bytes.Equal(b, before) {
			t.Fatal("Sum", n, h.Len())
		}
	}
	for _, n := range []int{511, 512, 513, 4096, 8191, 70000} {
		if sha.Of(some(n)) != sha256.Sum256(some(n)) {
			t.Error(n)
		}
	}
}

func TestZeroAndNew(t *testing.T) {
	var zero sha.Hash
	empty := sha256.Sum256(nil)
	if zero.Len() != 0 || zero.Sum() != empty || zero.Copy().Sum() != empty {
		t.Error("zero")
	}
	zero.Write(nil)
	zero.Write([]byte("abc"))
	if zero.Sum() != sha256.Sum256([]byte("abc")) || zero.Len() != 3 {
		t.Error("zero, written to")
	}
	if h := sha.New(); h.Len() != 0 || h.Sum() != empty {
		t.Error("New")
	}
	if sha.Of() != empty || sha.Of(nil) != empty || sha.Of(nil, []byte{}, nil) != empty {
		t.Error("Of nothing")
	}
}

func TestPieces(t *testing.T) {
	r := rand.New(rand.NewSource(10))
	for n := range 300 {
		b := some(n)
		want := sha256.Sum256(b)
		h := sha.New()
		var l [][]byte
		for at := 0; at < n; {
			end := min(n, at+r.Intn(100))
			h.Write(b[at:end])
			l = append(l, b[at:end])
			at = end
			if h.Sum() != sha256.Sum256(b[:at]) || h.Len() != uint64(at) {
				t.Fatal("so far", n, at)
			}
		}
		if h.Sum() != want || h.Sum() != want || sha.Of(l...) != want {
			t.Fatal("whole", n)
		}
	}
	for at := range 130 {
		b := some(129)
		h := sha.New()
		for _, x := range b {
			h.Write([]byte{x})
		}
		if sha.Of(b[:at], b[at:]) != h.Sum() {
			t.Fatal(at)
		}
	}
}

func TestCopies(t *testing.T) {
	for _, n := range []int{0, 1, 55, 56, 63, 64, 65, 127, 128, 200} {
		h := sha.New()
		h.Write(some(n))
		c := h.Copy()
		if c == h || c.Sum() != h.Sum() || c.Len() != h.Len() {
			t.Error("no copy", n)
		}
		h.Write([]byte("one"))
		if c.Sum() != sha256.Sum256(some(n)) || c.Len() != uint64(n) {
			t.Error("the copy changed", n)
		}
		c.Write(some(300))
		if h.Sum() != sha256.Sum256(append(some(n), "one"...)) || h.Len() != uint64(n)+3 {
			t.Error("the first changed", n)
		}
		if c.Sum() != sha256.Sum256(append(some(n), some(300)...)) || c.Len() != uint64(n)+300 {
			t.Error("the copy goes on otherwise", n)
		}
	}
}
