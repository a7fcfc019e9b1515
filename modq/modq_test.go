package modq_test

import (
	"math"
	"math/big"
	"math/rand"
	"slices"
	"testing"

	"sortition/api"
	"sortition/limb"
	"sortition/modq"
	"sortition/mont"
)

const top = math.MaxUint64

func number(a api.Nat) *big.Int { return new(big.Int).SetBytes(limb.Bytes(a)) }

func nat(n *big.Int) api.Nat {
	a, _ := limb.Of(n.Bytes())
	return a
}

func modulo(t *testing.T, m api.Nat) *mont.Mod {
	t.Helper()
	x, e := mont.New(m)
	if e != api.OK {
		t.Fatal(m, e)
	}
	return x
}

func smalls(l ...uint64) []api.Nat {
	var out []api.Nat
	for _, n := range l {
		out = append(out, limb.Small(n))
	}
	return out
}

// moduli are odd: primes, and products of some, up to the greatest ones.
func moduli() []api.Nat {
	return []api.Nat{{3}, {5}, {9}, {13}, {15}, {105}, {225}, {10007}, {top}, {top, top}, {top - 188, top, top, top}, {top, top, top, top}, {1, 0, 0, 1 << 63}}
}

// chances are numbers by chance, of all lengths.
func chances(r *rand.Rand, n int) []api.Nat {
	l := make([]api.Nat, n)
	for i := range l {
		l[i] = limb.Shift(api.Nat{r.Uint64(), r.Uint64(), r.Uint64(), r.Uint64()}, -r.Intn(256))
	}
	return l
}

func TestInverses(t *testing.T) {
	r := rand.New(rand.NewSource(4))
	for _, m := range moduli() {
		x, bm := modulo(t, m), number(m)
		less, _ := limb.Sub(m, limb.Small(1))
		more, _ := limb.Add(m, limb.Small(1))
		l := append([]api.Nat{{}, m, less, more, {top, top, top, top}, limb.Shift(m, 1)}, chances(r, 30)...)
		for i := range uint64(230) {
			l = append(l, limb.Small(i))
		}
		for _, a := range l {
			got, e := modq.Inverse(x, a)
			want := new(big.Int).ModInverse(number(a), bm)
			if want == nil {
				if got != (api.Nat{}) || e != api.ErrZero {
					t.Fatal("there is none", m, a, got, e)
				}
			} else if got != nat(want) || e != api.OK {
				t.Fatal("Inverse", m, a, got, e)
			}
		}
	}
	x := modulo(t, limb.Small(13))
	if got, e := modq.Inverse(x, limb.Small(5)); got != limb.Small(8) || e != api.OK {
		t.Error(got, e)
	}
	if got, e := modq.Inverse(x, limb.Small(0)); got != limb.Small(0) || e != api.ErrZero {
		t.Error(got, e)
	}
}

func TestSums(t *testing.T) {
	r := rand.New(rand.NewSource(5))
	for _, m := range moduli() {
		x := modulo(t, m)
		for n := range 9 {
			l := append(chances(r, n), m, api.Nat{top, top, top, top})[:n]
			want := new(big.Int)
			for _, a := range l {
				want.Add(want, number(a))
			}
			before := slices.Clone(l)
			if got := modq.Sum(x, l...); got != nat(want.Mod(want, number(m))) || !slices.Equal(l, before) {
				t.Fatal("Sum", m, l, got)
			}
		}
	}
	x := modulo(t, limb.Small(13))
	if modq.Sum(x) != limb.Small(0) || modq.Sum(x, limb.Small(27)) != limb.Small(1) || modq.Sum(x, smalls(12, 12, 12)...) != limb.Small(10) {
		t.Error(modq.Sum(x), modq.Sum(x, limb.Small(27)), modq.Sum(x, smalls(12, 12, 12)...))
	}
}

// value is a polynomial's value, term by term.
func value(m api.Nat, l []api.Nat, at api.Nat) api.Nat {
	sum, bm := new(big.Int), number(m)
	for i, c := range l {
		term := new(big.Int).Exp(number(at), big.NewInt(int64(i)), bm)
		sum.Add(sum, term.Mul(term, number(c)))
	}
	return nat(sum.Mod(sum, bm))
}

func TestValues(t *testing.T) {
	r := rand.New(rand.NewSource(6))
	for _, m := range moduli() {
		x := modulo(t, m)
		for n := range 12 {
			l := chances(r, n)
			before := slices.Clone(l)
			for _, at := range append(chances(r, 5), api.Nat{}, api.Nat{1}, m, api.Nat{top, top, top, top}) {
				if got := modq.Eval(x, l, at); got != value(m, l, at) || !slices.Equal(l, before) {
					t.Fatal("Eval", m, l, at, got)
				}
			}
		}
	}
	x := modulo(t, limb.Small(13))
	if got := modq.Eval(x, smalls(3, 2), limb.Small(4)); got != limb.Small(11) {
		t.Error(got)
	}
	if got := modq.Eval(x, nil, limb.Small(4)); got != limb.Small(0) {
		t.Error(got)
	}
	if got := modq.Eval(x, smalls(14), limb.Small(4)); got != limb.Small(1) {
		t.Error(got)
	}
}

// weights are Weights as the promise tells them.
func weights(m api.Nat, at []api.Nat) ([]api.Nat, api.Errno) {
	bm := number(m)
	rest := func(a api.Nat) *big.Int { return new(big.Int).Mod(number(a), bm) }
	for i := range at {
		for k := range i {
			if rest(at[i]).Cmp(rest(at[k])) == 0 {
				return nil, api.ErrSame
			}
		}
	}
	var l []api.Nat
	for i := range at {
		product := big.NewInt(1)
		for k := range at {
			if k != i {
				inverse := new(big.Int).ModInverse(new(big.Int).Sub(number(at[k]), number(at[i])), bm)
				if inverse == nil {
					return nil, api.ErrZero
				}
				product.Mul(product, number(at[k])).Mul(product, inverse).Mod(product, bm)
			}
		}
		l = append(l, nat(product))
	}
	return l, api.OK
}

func TestWeights(t *testing.T) {
	r := rand.New(rand.NewSource(7))
	seen := map[api.Errno]int{}
	for _, m := range moduli() {
		x := modulo(t, m)
		for n := range 40 {
			at := chances(r, n%8)
			if n >= 20 {
				at = nil
				for range n % 5 {
					at = append(at, limb.Small(uint64(r.Intn(20))))
				}
			}
			before := slices.Clone(at)
			want, e := weights(m, at)
			seen[e]++
			got, ge := modq.Weights(x, at)
			if !slices.Equal(got, want) || ge != e || !slices.Equal(at, before) {
				t.Fatal("Weights", m, at, got, ge, want, e)
			}
		}
	}
	if seen[api.OK] == 0 || seen[api.ErrSame] == 0 || seen[api.ErrZero] == 0 {
		t.Error("not all was seen", seen)
	}
}

func TestWeightsErrors(t *testing.T) {
	for i, c := range []struct {
		m    uint64
		at   []uint64
		want []uint64
		e    api.Errno
	}{
		{13, nil, nil, api.OK},
		{13, []uint64{5}, []uint64{1}, api.OK},
		{13, []uint64{0}, []uint64{1}, api.OK},
		{13, []uint64{1, 14}, nil, api.ErrSame},
		{13, []uint64{0, 5, 13}, nil, api.ErrSame},
		{15, []uint64{1, 4}, nil, api.ErrZero},       // 3 has none modulo 15
		{15, []uint64{1, 4, 16}, nil, api.ErrSame},   // ahead of ErrZero
		{15, []uint64{1, 2, 4, 7}, nil, api.ErrZero}, // the last two, or the first and the third
		{15, []uint64{1, 2}, []uint64{2, 14}, api.OK},
		{13, []uint64{0, 7}, []uint64{1, 0}, api.OK},
	} {
		got, e := modq.Weights(modulo(t, limb.Small(c.m)), smalls(c.at...))
		if !slices.Equal(got, smalls(c.want...)) || e != c.e {
			t.Error(i, got, e)
		}
	}
}

func TestAtZero(t *testing.T) {
	p := func(x, y uint64) api.Point { return api.Point{X: limb.Small(x), Y: limb.Small(y)} }
	for i, c := range []struct {
		m    uint64
		l    []api.Point
		want uint64
		e    api.Errno
	}{
		{13, nil, 0, api.OK},
		{13, []api.Point{p(1, 5), p(4, 11)}, 3, api.OK},
		{13, []api.Point{p(14, 18), p(17, 24)}, 3, api.OK},
		{13, []api.Point{p(1, 5), p(14, 5)}, 0, api.ErrSame},
		{13, []api.Point{p(6, 15)}, 2, api.OK},
		{13, []api.Point{p(0, 9), p(6, 2)}, 9, api.OK},
		{15, []api.Point{p(1, 5), p(6, 5)}, 0, api.ErrZero},
		{15, []api.Point{p(1, 5), p(6, 5), p(21, 5)}, 0, api.ErrSame},
	} {
		got, e := modq.AtZero(modulo(t, limb.Small(c.m)), c.l)
		if got != limb.Small(c.want) || e != c.e {
			t.Error(i, got, e)
		}
	}
}

// TestFollows: values at as many places as there are coefficients, or more, tell the value at 0.
func TestFollows(t *testing.T) {
	r := rand.New(rand.NewSource(8))
	for _, m := range []api.Nat{{10007}, {top - 188, top, top, top}, {top - 58}} {
		x := modulo(t, m)
		for n := range 8 {
			l := chances(r, n)
			var points []api.Point
			for k := range n + 3 {
				at := limb.Small(uint64(k*k + 1))
				points = append(points, api.Point{X: at, Y: modq.Eval(x, l, at)})
				if len(points) < n {
					continue
				}
				if got, e := modq.AtZero(x, points); got != modq.Eval(x, l, api.Nat{}) || e != api.OK {
					t.Fatal(m, l, points, got, e)
				}
			}
		}
	}
}
