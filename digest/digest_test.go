package digest_test

import (
	"bytes"
	"crypto/sha256"
	"encoding/binary"
	"math"
	"math/big"
	"slices"
	"testing"

	"sortition/api"
	"sortition/digest"
	"sortition/limb"
	"sortition/sha"
)

const top = math.MaxUint64

func seed(n int) api.Digest { return api.Digest{byte(n), 7, 31: byte(n >> 8)} }

// stream are the first n bytes of a seed's stream, as the promise tells them.
func stream(seed api.Digest, n int) []byte {
	var out []byte
	for i := uint64(0); len(out) < n; i++ {
		d := sha256.Sum256(binary.BigEndian.AppendUint64(seed[:], i))
		out = append(out, d[:]...)
	}
	return out[:n]
}

func TestTagged(t *testing.T) {
	for i, c := range []struct {
		tag string
		l   [][]byte
	}{
		{"", nil}, {"seed", nil}, {"", [][]byte{{}}}, {"seed", [][]byte{{1, 2}, {}, {3}}}, {"block", [][]byte{bytes.Repeat([]byte{9}, 300)}}, {string(make([]byte, 70000)), [][]byte{nil}},
	} {
		written := binary.BigEndian.AppendUint64(nil, uint64(len(c.tag)))
		written = append(written, c.tag...)
		for _, b := range c.l {
			written = binary.BigEndian.AppendUint64(written, uint64(len(b)))
			written = append(written, b...)
		}
		if digest.Tagged(c.tag, c.l...) != sha256.Sum256(written) || sha.Of(written) != sha256.Sum256(written) {
			t.Error(i)
		}
	}
}

func TestTagsDiffer(t *testing.T) {
	seen := map[api.Digest]int{}
	for i, d := range []api.Digest{digest.Tagged(""), digest.Tagged("a"), digest.Tagged("a", nil), digest.Tagged("a", nil, nil), digest.Tagged("", []byte("a")), digest.Tagged("a", []byte("b")), digest.Tagged("ab"), digest.Tagged("ab", nil), digest.Tagged("a", []byte("b"), nil), digest.Tagged("a", nil, []byte("b")), digest.Tagged("a", []byte("bc")), digest.Tagged("a", []byte("b"), []byte("c"))} {
		if k, ok := seen[d]; ok {
			t.Error(i, k)
		}
		seen[d] = i
	}
}

func TestBytes(t *testing.T) {
	for n := range 40 {
		s := digest.New(seed(n))
		want := stream(seed(n), 20000)
		for at, k := 0, 0; at+k*k <= len(want) && k*k <= 4000; k++ {
			if s.Taken() != uint64(at) {
				t.Fatal("Taken", n, at, s.Taken())
			}
			b, e := s.Bytes(k * k)
			if !bytes.Equal(b, want[at:at+k*k]) || e != api.OK {
				t.Fatal("Bytes", n, at, k, e)
			}
			at += k * k
		}
	}
}

func TestBytesEnds(t *testing.T) {
	s := digest.New(seed(1))
	for _, n := range []int{-1, 4001, math.MinInt, math.MaxInt} {
		if b, e := s.Bytes(n); len(b) != 0 || e != api.ErrLong || s.Taken() != 0 {
			t.Error(n, b, e, s.Taken())
		}
	}
	if b, e := s.Bytes(0); len(b) != 0 || e != api.OK || s.Taken() != 0 {
		t.Error(b, e, s.Taken())
	}
	if b, e := s.Bytes(4000); !bytes.Equal(b, stream(seed(1), 4000)) || e != api.OK || s.Taken() != 4000 {
		t.Error(e, s.Taken())
	}
	two, _ := digest.New(seed(2)).Bytes(5)
	s = digest.New(seed(2))
	a, _ := s.Bytes(2)
	b, _ := s.Bytes(3)
	if !bytes.Equal(slices.Concat(a, b), two) {
		t.Error(a, b, two)
	}
}

// model takes numbers as the promise tells it.
type model struct {
	b  []byte
	at int
}

func (m *model) below(limit *big.Int) *big.Int {
	k := new(big.Int).Sub(limit, big.NewInt(1)).BitLen()
	n := (k + 7) / 8
	a := new(big.Int)
	for range 100 {
		a.SetBytes(m.b[m.at : m.at+n])
		m.at += n
		a.And(a, new(big.Int).Sub(new(big.Int).Lsh(big.NewInt(1), uint(k)), big.NewInt(1)))
		if a.Cmp(limit) < 0 {
			return a
		}
	}
	return a.Mod(a, limit)
}

func limits() []api.Nat {
	l := []api.Nat{{top, top, top, top}, {0, 0, 0, 1 << 63}, {1, 0, 0, 1 << 63}, {0, 1}, {1, 1}, {top}, {0, 0, 1}, {1, 0, 1}, {0, 0, 0, 3}, {1 << 63}, {1<<63 + 1}}
	for n := range uint64(70) {
		l = append(l, limb.Small(n+1))
	}
	for _, n := range []uint64{127, 128, 129, 255, 256, 257, 511, 512, 513, 65535, 65536, 65537} {
		l = append(l, limb.Small(n))
	}
	return l
}

func TestBelow(t *testing.T) {
	for n := range 30 {
		s, m := digest.New(seed(n)), model{b: stream(seed(n), 100000)}
		for _, limit := range limits() {
			want := m.below(new(big.Int).SetBytes(limb.Bytes(limit)))
			got, e := s.Below(limit)
			if !bytes.Equal(limb.Bytes(got), want.FillBytes(make([]byte, 32))) || e != api.OK || s.Taken() != uint64(m.at) {
				t.Fatal("Below", n, limit, got, e, s.Taken(), m.at)
			}
		}
	}
	s := digest.New(seed(1))
	if a, e := s.Below(api.Nat{}); a != (api.Nat{}) || e != api.ErrZero || s.Taken() != 0 {
		t.Error(a, e, s.Taken())
	}
	if a, e := s.Below(limb.Small(1)); a != (api.Nat{}) || e != api.OK || s.Taken() != 0 {
		t.Error(a, e, s.Taken())
	}
}

func TestIndex(t *testing.T) {
	for n := range 30 {
		s, m := digest.New(seed(n)), model{b: stream(seed(n), 100000)}
		for _, k := range []int{1, 2, 3, 10, 200, 256, 257, 1 << 40, math.MaxInt} {
			want := m.below(big.NewInt(int64(k))).Int64()
			if got, e := s.Index(k); got != int(want) || e != api.OK || s.Taken() != uint64(m.at) {
				t.Fatal("Index", n, k, got, e)
			}
		}
		for _, k := range []int{0, -1, math.MinInt} {
			if got, e := s.Index(k); got != 0 || e != api.ErrArg || s.Taken() != uint64(m.at) {
				t.Fatal("Index", n, k, got, e)
			}
		}
	}
}

func TestShuffle(t *testing.T) {
	for n := range 201 {
		m := model{b: stream(seed(n), 100000)}
		want := make([]int, n)
		for i := range want {
			want[i] = i
		}
		for i := n - 1; i >= 1; i-- {
			k := m.below(big.NewInt(int64(i + 1))).Int64()
			want[i], want[k] = want[k], want[i]
		}
		s := digest.New(seed(n))
		got, e := s.Shuffle(n)
		if !slices.Equal(got, want) || e != api.OK || s.Taken() != uint64(m.at) {
			t.Fatal("Shuffle", n, got, e)
		}
		slices.Sort(got)
		for i, k := range got {
			if i != k {
				t.Fatal("each once", n, i, k)
			}
		}
	}
	for _, n := range []int{-1, 201, math.MinInt, math.MaxInt} {
		s := digest.New(seed(1))
		if got, e := s.Shuffle(n); len(got) != 0 || e != api.ErrArg || s.Taken() != 0 {
			t.Error(n, got, e)
		}
	}
}

// TestMixed asks one stream in all ways, one behind the other.
func TestMixed(t *testing.T) {
	s, m := digest.New(seed(5)), model{b: stream(seed(5), 100000)}
	for i := range 50 {
		b, _ := s.Bytes(i)
		if !bytes.Equal(b, m.b[m.at:m.at+i]) {
			t.Fatal("Bytes", i)
		}
		m.at += i
		limit := limb.Small(uint64(i*i*i + 2))
		got, _ := s.Below(limit)
		if want := m.below(new(big.Int).SetBytes(limb.Bytes(limit))); want.Uint64() != got[0] {
			t.Fatal("Below", i)
		}
	}
	if s.Taken() != uint64(m.at) {
		t.Error(s.Taken(), m.at)
	}
}
