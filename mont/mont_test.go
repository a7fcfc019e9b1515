package mont_test

import (
	"math"
	"math/big"
	"math/rand"
	"sync"
	"testing"

	"sortition/api"
	"sortition/limb"
	"sortition/mont"
)

func number(a api.Nat) *big.Int { return new(big.Int).SetBytes(limb.Bytes(a)) }

func nat(n *big.Int) api.Nat {
	a, _ := limb.Of(n.Bytes())
	return a
}

const top = math.MaxUint64

// moduli are odd, above 1: small ones, those at the ends of words, some by chance.
func moduli() []api.Nat {
	l := []api.Nat{{3}, {5}, {9}, {13}, {15}, {top}, {1, 1}, {1<<63 + 1}, {top, top}, {1, 0, 1}, {1, 0, 0, 1}, {1, 0, 0, 1 << 63}, {top, top, top, top}, {top - 188, top, top, top}, {top, top, top, 1<<63 - 1}}
	r := rand.New(rand.NewSource(2))
	for i := range 12 {
		a := api.Nat{r.Uint64() | 1, r.Uint64(), r.Uint64(), r.Uint64()}
		l = append(l, limb.Shift(api.Nat{a[0], a[1], a[2], a[3]}, -20*i))
	}
	for i := range l {
		l[i][0] |= 1
	}
	return l
}

// operands are any numbers: around m, around 2^256, and some by chance.
func operands(m api.Nat) []api.Nat {
	less, _ := limb.Sub(m, limb.Small(1))
	more, _ := limb.Add(m, limb.Small(1))
	l := []api.Nat{{}, {1}, {2}, {7}, {top}, m, less, more, limb.Shift(m, 1), {top, top, top, top}, {top - 1, top, top, top}, {0, 0, 0, 1 << 63}, {0, 1}}
	r := rand.New(rand.NewSource(3))
	for i := range 8 {
		a := api.Nat{r.Uint64(), r.Uint64(), r.Uint64(), r.Uint64()}
		l = append(l, limb.Shift(a, -30*i))
	}
	return l
}

func modulo(t *testing.T, m api.Nat) *mont.Mod {
	t.Helper()
	x, e := mont.New(m)
	if e != api.OK || x == nil {
		t.Fatal("New", m, e)
	}
	return x
}

func TestNew(t *testing.T) {
	for _, c := range []struct {
		m api.Nat
		e api.Errno
	}{{api.Nat{}, api.ErrZero}, {api.Nat{1}, api.ErrZero}, {api.Nat{2}, api.ErrEven}, {api.Nat{8}, api.ErrEven}, {api.Nat{0, 1}, api.ErrEven}, {api.Nat{0, 1, 1}, api.ErrEven}, {api.Nat{top - 1, top, top, top}, api.ErrEven}} {
		if x, e := mont.New(c.m); x != nil || e != c.e {
			t.Error(c.m, x, e)
		}
	}
	for _, m := range moduli() {
		if modulo(t, m).M() != m {
			t.Error("M", m)
		}
	}
}

func TestExamples(t *testing.T) {
	x := modulo(t, limb.Small(13))
	if x.To(limb.Small(1)) != limb.Small(3) || x.From(x.To(limb.Small(5))) != limb.Small(5) {
		t.Error(x.To(limb.Small(1)), x.From(x.To(limb.Small(5))))
	}
	if x.Times(limb.Small(7), limb.Small(8)) != limb.Small(4) || x.Pow(limb.Small(2), limb.Small(12)) != limb.Small(1) {
		t.Error(x.Times(limb.Small(7), limb.Small(8)), x.Pow(limb.Small(2), limb.Small(12)))
	}
}

func TestImages(t *testing.T) {
	for _, m := range moduli() {
		x, bm := modulo(t, m), number(m)
		inverse := new(big.Int).ModInverse(new(big.Int).Lsh(big.NewInt(1), 256), bm)
		for _, a := range operands(m) {
			image := new(big.Int).Lsh(number(a), 256)
			if got := x.To(a); number(got).Cmp(image.Mod(image, bm)) != 0 {
				t.Fatal("To", m, a, got)
			}
			from := new(big.Int).Mul(number(a), inverse)
			if got := x.From(a); number(got).Cmp(from.Mod(from, bm)) != 0 {
				t.Fatal("From", m, a, got)
			}
			for _, b := range operands(m) {
				want := new(big.Int).Mul(number(a), number(b))
				want.Mul(want, inverse).Mod(want, bm)
				if got := x.Mul(a, b); number(got).Cmp(want) != 0 {
					t.Fatal("Mul", m, a, b, got)
				}
			}
		}
	}
}

func TestReckons(t *testing.T) {
	for _, m := range moduli() {
		x, bm := modulo(t, m), number(m)
		for _, a := range operands(m) {
			for _, b := range operands(m) {
				for name, c := range map[string]struct{ got, want *big.Int }{
					"Times": {number(x.Times(a, b)), new(big.Int).Mul(number(a), number(b))},
					"Plus":  {number(x.Plus(a, b)), new(big.Int).Add(number(a), number(b))},
					"Minus": {number(x.Minus(a, b)), new(big.Int).Sub(number(a), number(b))},
				} {
					if c.got.Cmp(c.want.Mod(c.want, bm)) != 0 {
						t.Fatal(name, m, a, b, c.got)
					}
				}
			}
		}
	}
}

func TestPowers(t *testing.T) {
	for _, m := range moduli() {
		x := modulo(t, m)
		l := operands(m)
		for i, a := range l {
			for _, n := range []api.Nat{{}, {1}, {2}, {3}, {16}, {255}, {0, 1}, {top, top, top, top}, l[(i*3+5)%len(l)]} {
				want := new(big.Int).Exp(number(a), number(n), number(m))
				if got := x.Pow(a, n); got != nat(want) {
					t.Fatal("Pow", m, a, n, got)
				}
			}
		}
	}
}

// TestFirstAsked asks each call of a Mod of its own first, since its numbers are made then.
func TestFirstAsked(t *testing.T) {
	five := limb.Small(5)
	for name, ask := range map[string]func(x *mont.Mod) api.Nat{
		"To":    func(x *mont.Mod) api.Nat { return x.To(five) },                             // 5 by 3
		"From":  func(x *mont.Mod) api.Nat { return x.From(limb.Small(2)) },                  // 5 by 3 is 2
		"Mul":   func(x *mont.Mod) api.Nat { return x.Mul(limb.Small(2), limb.Small(3)) },    // of 5 and 1
		"Times": func(x *mont.Mod) api.Nat { return x.Times(limb.Small(12), limb.Small(6)) }, // 72
		"Plus":  func(x *mont.Mod) api.Nat { return x.Plus(limb.Small(12), limb.Small(6)) },  // 18
		"Minus": func(x *mont.Mod) api.Nat { return x.Minus(limb.Small(1), limb.Small(9)) },  // -8
		"Pow":   func(x *mont.Mod) api.Nat { return x.Pow(limb.Small(3), limb.Small(4)) },    // 81
	} {
		want := map[string]uint64{"To": 2, "From": 5, "Mul": 2, "Times": 7, "Plus": 5, "Minus": 5, "Pow": 3}[name]
		if got := ask(modulo(t, limb.Small(13))); got != limb.Small(want) {
			t.Error(name, got, want)
		}
	}
}

// TestManyAtOnce asks one Mod by many: its numbers are made once.
func TestManyAtOnce(t *testing.T) {
	x := modulo(t, api.Nat{top, top, top, top})
	answers := make([]api.Nat, 16)
	var all sync.WaitGroup
	for i := range answers {
		all.Go(func() { answers[i] = x.Pow(limb.Small(7), limb.Small(1000)) })
	}
	all.Wait()
	for i, a := range answers {
		if a != answers[0] || a == (api.Nat{}) {
			t.Error(i, a)
		}
	}
}

func TestFollows(t *testing.T) {
	for _, m := range moduli() {
		x := modulo(t, m)
		for _, a := range operands(m) {
			rest := nat(new(big.Int).Mod(number(a), number(m)))
			if x.From(x.To(a)) != rest || x.To(x.From(a)) != rest {
				t.Fatal("there and back", m, a)
			}
			for _, b := range operands(m) {
				if x.Mul(x.To(a), x.To(b)) != x.To(x.Times(a, b)) {
					t.Fatal("products of images", m, a, b)
				}
			}
		}
	}
}
