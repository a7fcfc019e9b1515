package group_test

import (
	"math"
	"math/big"
	"math/rand"
	"slices"
	"testing"

	"sortition/api"
	"sortition/group"
	"sortition/limb"
	"sortition/pratt"
	"sortition/sample"
)

const most = math.MaxUint64

var top = api.Nat{most, most, most, most}

func number(a api.Nat) *big.Int { return new(big.Int).SetBytes(limb.Bytes(a)) }

func power(a, n, m api.Nat) api.Nat {
	p, _ := limb.Of(new(big.Int).Exp(number(a), number(n), number(m)).Bytes())
	return p
}

func small(n uint64) api.Nat { return limb.Small(n) }

// proofs prove 3, 5, 7 and 11.
func proofs() []api.Proof {
	_, l := sample.Large()
	return l[:4]
}

func made(t *testing.T, p api.Params, l []api.Proof) *group.Group {
	t.Helper()
	g, e := group.New(p, l)
	if e != api.OK || g == nil {
		t.Fatal(p, e)
	}
	return g
}

// groups are one of primes, one modulo a number that is none, and a large one.
func groups(t *testing.T) []*group.Group {
	small23, l := sample.Small()
	large, ll := sample.Large()
	return []*group.Group{
		made(t, small23, l),
		made(t, api.Params{P: small(7), Q: small(3), G: small(2)}, proofs()),
		made(t, api.Params{P: small(9), Q: small(3), G: small(4)}, proofs()),
		made(t, api.Params{P: small(31), Q: small(5), G: small(30 - 14)}, proofs()),
		made(t, large, ll),
	}
}

func TestNew(t *testing.T) {
	good, l := sample.Small()
	wrong := []api.Proof{{N: small(5), G: small(2), Factors: []api.Factor{{P: small(2), E: 0}}}}
	with := func(p, q, g uint64) api.Params { return api.Params{P: small(p), Q: small(q), G: small(g)} }
	for i, c := range []struct {
		p api.Params
		l []api.Proof
		e api.Errno
	}{
		{good, l, api.OK},
		{good, proofs(), api.OK},
		{good, l[:1], api.ErrProof},
		{good, l[1:], api.ErrProof},
		{good, nil, api.ErrProof},
		{good, wrong, api.ErrArg},
		{good, slices.Repeat(l, 21), api.ErrLong},
		{with(22, 11, 4), wrong, api.ErrArg},
		{with(22, 11, 4), nil, api.ErrProof},
		{with(22, 11, 4), l, api.ErrGroup},
		{with(14, 3, 9), proofs(), api.ErrGroup}, // P is even, and all else is right
		{with(0, 3, 2), proofs(), api.ErrGroup},
		{with(1, 3, 2), proofs(), api.ErrGroup},
		{with(3, 2, 2), proofs(), api.ErrGroup},
		{with(4, 2, 3), proofs(), api.ErrGroup},
		{with(5, 2, 4), proofs(), api.ErrGroup},   // Q is 2, and all else is right
		{with(23, 2, 22), nil, api.ErrGroup},      // likewise
		{with(11, 11, 4), proofs(), api.ErrGroup}, // Q is not below P
		{with(7, 11, 2), proofs(), api.ErrGroup},
		{with(23, 11, 0), l, api.ErrGroup},
		{with(23, 11, 1), l, api.ErrGroup},
		{with(23, 11, 2), l, api.OK},
		{with(23, 11, 5), l, api.ErrGroup},
		{with(23, 11, 22), l, api.ErrGroup},
		{with(23, 11, 23), l, api.ErrGroup},
		{with(23, 11, 24), l, api.ErrGroup},
		{with(23, 11, 27), l, api.ErrGroup},
		{with(7, 3, 4), proofs(), api.OK},
		{with(9, 3, 7), proofs(), api.OK},
		{with(9, 3, 8), proofs(), api.ErrGroup},
	} {
		g, e := group.New(c.p, c.l)
		if e != c.e || (g == nil) != (e != api.OK) {
			t.Error(i, g, e)
		}
	}
}

func TestParams(t *testing.T) {
	p, l := sample.Large()
	g := made(t, p, l)
	if g.Params() != p || g.Q() == nil || g.Q().M() != p.Q {
		t.Error(g.Params(), g.Q().M())
	}
	p, l = sample.Small()
	g = made(t, p, l)
	if g.Params() != p || g.Q().M() != small(11) || g.Q().Times(small(5), small(9)) != small(1) {
		t.Error(g.Params(), g.Q().M())
	}
}

func TestMembers(t *testing.T) {
	for _, g := range groups(t) {
		p := g.Params()
		for n := range uint64(100) {
			a := small(n)
			want := n > 0 && limb.Cmp(a, p.P) < 0 && power(a, p.Q, p.P) == small(1)
			if g.Member(a) != want {
				t.Error(p, n, g.Member(a))
			}
		}
		less, _ := limb.Sub(p.P, small(1))
		beyond, _ := limb.Add(p.P, p.G)
		for i, a := range []api.Nat{{}, less, p.P, beyond, top} {
			if g.Member(a) {
				t.Error(p, i)
			}
		}
		if !g.Member(small(1)) || !g.Member(p.G) {
			t.Error(p)
		}
	}
}

func exponents(q api.Nat) []api.Nat {
	less, _ := limb.Sub(q, small(1))
	more, _ := limb.Add(q, small(1))
	return []api.Nat{{}, {1}, {2}, {3}, {10}, less, q, more, {0, 1}, {5, 6, 7, 8}, top}
}

func TestPowers(t *testing.T) {
	g := groups(t)[0]
	if g.Base(small(3)) != small(18) {
		t.Error(g.Base(small(3)))
	}
	if a, e := g.Exp(small(5), small(2)); a != (api.Nat{}) || e != api.ErrMember {
		t.Error(a, e)
	}
	for _, g := range groups(t) {
		p := g.Params()
		for _, n := range exponents(p.Q) {
			if got := g.Base(n); got != power(p.G, n, p.P) || !g.Member(got) || got != g.Base(g.Q().Plus(n, api.Nat{})) {
				t.Error("Base", p, n, got)
			}
			for k := range uint64(60) {
				want, we := api.Nat{}, api.ErrMember
				if g.Member(small(k)) {
					want, we = power(small(k), n, p.P), api.OK
				}
				if got, e := g.Exp(small(k), n); got != want || e != we {
					t.Error("Exp", p, k, n, got, e)
				}
			}
		}
	}
}

func TestTimes(t *testing.T) {
	for _, g := range groups(t) {
		p := g.Params()
		for a := range uint64(40) {
			for b := range uint64(40) {
				want, we := api.Nat{}, api.ErrMember
				if g.Member(small(a)) && g.Member(small(b)) {
					_, want, _ = limb.Div(small(a*b), p.P)
					we = api.OK
				}
				if got, e := g.Times(small(a), small(b)); got != want || e != we {
					t.Fatal("Times", p, a, b, got, e)
				}
			}
		}
		if got, e := g.Times(g.Base(top), g.Base(small(7))); got != g.Base(g.Q().Plus(top, small(7))) || e != api.OK {
			t.Error(p, got, e)
		}
	}
}

func TestMulti(t *testing.T) {
	r := rand.New(rand.NewSource(9))
	for _, g := range groups(t) {
		p := g.Params()
		for n := range 41 {
			if n > 6 && n < 39 {
				continue
			}
			var l, times []api.Nat
			want := small(1)
			for range n {
				a, k := g.Base(api.Nat{r.Uint64(), r.Uint64()}), api.Nat{r.Uint64(), r.Uint64(), r.Uint64(), r.Uint64()}
				l, times = append(l, a), append(times, k)
				product := new(big.Int).Mul(number(want), number(power(a, k, p.P)))
				want, _ = limb.Of(product.Mod(product, number(p.P)).Bytes())
			}
			before, and := slices.Clone(l), slices.Clone(times)
			got, e := g.Multi(l, times)
			if got != want || e != api.OK || !slices.Equal(l, before) || !slices.Equal(times, and) {
				t.Fatal("Multi", p, n, got, e)
			}
			for i := range l {
				l[i] = p.P
				if got, e := g.Multi(l, times); got != (api.Nat{}) || e != api.ErrMember {
					t.Fatal("no member", p, n, i, got, e)
				}
				l[i] = before[i]
			}
		}
	}
}

func TestMultiErrors(t *testing.T) {
	g := groups(t)[0]
	ones := func(n int) []api.Nat { return slices.Repeat([]api.Nat{{1}}, n) }
	fives := func(n int) []api.Nat { return slices.Repeat([]api.Nat{{5}}, n) }
	for i, c := range []struct {
		l, n []api.Nat
		want uint64
		e    api.Errno
	}{
		{nil, nil, 1, api.OK},
		{ones(40), ones(40), 1, api.OK},
		{ones(41), ones(41), 0, api.ErrArg},
		{fives(41), ones(41), 0, api.ErrArg},
		{ones(2), ones(1), 0, api.ErrArg},
		{ones(1), ones(2), 0, api.ErrArg},
		{nil, ones(1), 0, api.ErrArg},
		{fives(2), ones(3), 0, api.ErrArg},
		{fives(40), ones(40), 0, api.ErrMember},
		{fives(1), []api.Nat{{}}, 0, api.ErrMember},
	} {
		if got, e := g.Multi(c.l, c.n); got != small(c.want) || e != c.e {
			t.Error(i, got, e)
		}
	}
}

// TestFollows: a group's order is a prime that is proved, and its maker's powers are Q in number.
func TestFollows(t *testing.T) {
	p, l := sample.Small()
	if pratt.Proves(l, p.Q) != api.OK {
		t.Fatal("no proof")
	}
	g := made(t, p, l)
	seen := map[api.Nat]bool{}
	for n := range uint64(30) {
		a := g.Base(small(n))
		seen[a] = true
		for k := range uint64(30) {
			both, e := g.Times(a, g.Base(small(k)))
			if both != g.Base(small(n+k)) || e != api.OK || !g.Member(both) {
				t.Error("sums are products", n, k)
			}
			if again, e := g.Exp(a, small(k)); again != g.Base(small(n*k)) || e != api.OK {
				t.Error("products are powers", n, k)
			}
		}
	}
	if len(seen) != 11 {
		t.Error(len(seen))
	}
}
