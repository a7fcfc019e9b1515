package limb_test

import (
	"bytes"
	"math"
	"math/big"
	"math/rand"
	"testing"

	"sortition/api"
	"sortition/limb"
)

// edge is 2^256.
var edge = new(big.Int).Lsh(big.NewInt(1), 256)

func whole(words []uint64) *big.Int {
	n := new(big.Int)
	for i := len(words) - 1; i >= 0; i-- {
		n.Lsh(n, 64).Or(n, new(big.Int).SetUint64(words[i]))
	}
	return n
}

func number(a api.Nat) *big.Int { return whole(a[:]) }

// values are numbers at the ends of words, and some of all lengths.
func values() []api.Nat {
	const top = math.MaxUint64
	l := []api.Nat{{}, {1}, {2}, {3}, {7}, {13}, {top}, {top - 1}, {0, 1}, {1, 1}, {0, 0, 1}, {0, 0, 0, 1}, {0, 0, 0, 1 << 63}, {top, top, top, top}, {top - 1, top, top, top}, {top, top, top, 1<<63 - 1}, {top, top}, {top, top, top}, {0, top}, {0, 0, top}, {0, 0, 0, top}, {5, 0, 0, 1 << 63}, {1 << 63, 1 << 63, 1 << 63, 1 << 63}, {0, top, 0, top}, {top, 0, top, 0}}
	r := rand.New(rand.NewSource(1))
	for bits := range 256 {
		var a api.Nat
		for i := range a {
			a[i] = r.Uint64()
		}
		n := new(big.Int).Rsh(number(a), uint(bits))
		a, _ = limb.Of(n.Bytes())
		if bits%7 == 0 {
			l = append(l, a)
		}
	}
	return l
}

func TestSumsAndDifferences(t *testing.T) {
	for _, a := range values() {
		for _, b := range values() {
			sum, carry := limb.Add(a, b)
			want := new(big.Int).Add(number(a), number(b))
			if got := new(big.Int).Add(number(sum), new(big.Int).Mul(edge, new(big.Int).SetUint64(carry))); got.Cmp(want) != 0 {
				t.Fatal("Add", a, b, sum, carry)
			}
			less, borrow := limb.Sub(a, b)
			want = new(big.Int).Sub(number(a), number(b))
			if got := new(big.Int).Sub(number(less), new(big.Int).Mul(edge, new(big.Int).SetUint64(borrow))); got.Cmp(want) != 0 {
				t.Fatal("Sub", a, b, less, borrow)
			}
			if got := limb.Cmp(a, b); got != number(a).Cmp(number(b)) {
				t.Fatal("Cmp", a, b, got)
			}
		}
	}
}

func TestCarries(t *testing.T) {
	const top = math.MaxUint64
	if sum, carry := limb.Add(api.Nat{top, top, top, top}, limb.Small(2)); sum != (api.Nat{1}) || carry != 1 {
		t.Error(sum, carry)
	}
	if less, borrow := limb.Sub(limb.Small(1), limb.Small(2)); less != (api.Nat{top, top, top, top}) || borrow != 1 {
		t.Error(less, borrow)
	}
	for _, n := range []uint64{0, 1, 300, 1 << 63, top} {
		if limb.Small(n) != (api.Nat{n}) {
			t.Error(n)
		}
	}
}

func TestProducts(t *testing.T) {
	for _, a := range values() {
		for _, b := range values() {
			w := limb.Mul(a, b)
			if whole(w[:]).Cmp(new(big.Int).Mul(number(a), number(b))) != 0 {
				t.Fatal("Mul", a, b, w)
			}
			if w != limb.Mul(b, a) {
				t.Fatal("order", a, b)
			}
		}
	}
}

func TestBits(t *testing.T) {
	for _, a := range values() {
		n := number(a)
		if limb.Len(a) != n.BitLen() {
			t.Fatal("Len", a, limb.Len(a))
		}
		for i := -70; i < 330; i++ {
			want := uint64(0)
			if i >= 0 {
				want = uint64(n.Bit(i))
			}
			if limb.Bit(a, i) != want {
				t.Fatal("Bit", a, i)
			}
		}
		for _, i := range []int{math.MinInt, math.MaxInt, -1 << 32, 1 << 32} {
			if limb.Bit(a, i) != 0 || limb.Shift(a, i) != (api.Nat{}) {
				t.Fatal("far", a, i)
			}
		}
		for i := range 300 {
			up := new(big.Int).Lsh(n, uint(i))
			if number(limb.Shift(a, i)).Cmp(up.Mod(up, edge)) != 0 {
				t.Fatal("up", a, i)
			}
			if number(limb.Shift(a, -i)).Cmp(new(big.Int).Rsh(n, uint(i))) != 0 {
				t.Fatal("down", a, i)
			}
		}
	}
}

func TestLengths(t *testing.T) {
	for n, a := range map[int]api.Nat{0: {}, 1: {1}, 64: {1 << 63}, 65: {0, 1}, 193: {0, 0, 0, 1}, 256: {0, 0, 0, 1 << 63}} {
		if limb.Len(a) != n {
			t.Error(n, limb.Len(a))
		}
	}
}

func TestDivides(t *testing.T) {
	for _, a := range values() {
		for _, m := range values() {
			q, r, e := limb.Div(a, m)
			if m == (api.Nat{}) {
				if q != m || r != m || e != api.ErrZero {
					t.Fatal("by 0", a, q, r, e)
				}
				continue
			}
			wq, wr := new(big.Int).DivMod(number(a), number(m), new(big.Int))
			if e != api.OK || number(q).Cmp(wq) != 0 || number(r).Cmp(wr) != 0 {
				t.Fatal("Div", a, m, q, r, e)
			}
		}
	}
	if q, r, e := limb.Div(limb.Small(100), limb.Small(7)); q != limb.Small(14) || r != limb.Small(2) || e != api.OK {
		t.Error(q, r, e)
	}
}

func TestRemainders(t *testing.T) {
	l := values()
	wides := []api.Wide{{}, {1}, {7: 1 << 63}, {4: 1}}
	for i := range wides[0] {
		wides[0][i] = math.MaxUint64
	}
	for i, a := range l {
		w := limb.Mul(a, l[(i*5+3)%len(l)])
		wides = append(wides, w)
	}
	for _, w := range wides {
		for _, m := range l {
			r, e := limb.Rem(w, m)
			if m == (api.Nat{}) {
				if r != m || e != api.ErrZero {
					t.Fatal("by 0", w, r, e)
				}
				continue
			}
			if want := new(big.Int).Mod(whole(w[:]), number(m)); e != api.OK || number(r).Cmp(want) != 0 {
				t.Fatal("Rem", w, m, r, e)
			}
		}
	}
}

func TestBytes(t *testing.T) {
	for _, a := range values() {
		b := limb.Bytes(a)
		if !bytes.Equal(b, number(a).FillBytes(make([]byte, 32))) {
			t.Fatal("Bytes", a, b)
		}
		for short := number(a).Bytes(); len(short) <= 32; short = append([]byte{0}, short...) {
			before := bytes.Clone(short)
			if got, e := limb.Of(short); got != a || e != api.OK || !bytes.Equal(short, before) {
				t.Fatal("Of", short, got, e)
			}
		}
	}
	for _, n := range []int{33, 34, 64, 1000} {
		if a, e := limb.Of(bytes.Repeat([]byte{1}, n)); a != (api.Nat{}) || e != api.ErrLong {
			t.Error(n, a, e)
		}
	}
	if a, e := limb.Of(make([]byte, 33)); a != (api.Nat{}) || e != api.ErrLong {
		t.Error("zeros", a, e)
	}
	if a, e := limb.Of(nil); a != (api.Nat{}) || e != api.OK {
		t.Error("none", a, e)
	}
}

func TestFollows(t *testing.T) {
	l := values()
	for i, a := range l {
		b, c := l[(i*3+1)%len(l)], l[(i*7+2)%len(l)]
		sum, carry := limb.Add(a, b)
		back, borrow := limb.Sub(sum, b)
		if back != a || borrow != carry {
			t.Fatal("what is taken away was added", a, b)
		}
		w := limb.Mul(a, c)
		if m := c; m != (api.Nat{}) {
			if r, e := limb.Rem(w, m); r != (api.Nat{}) || e != api.OK {
				t.Fatal("a product has a rest", a, c)
			}
			q, r, _ := limb.Div(b, m)
			x := limb.Mul(q, m)
			if again, left := limb.Add(api.Nat(x[:4]), r); again != b || left != 0 || limb.Cmp(r, m) >= 0 {
				t.Fatal("quotient and rest", b, m)
			}
		}
	}
}
