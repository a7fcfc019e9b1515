package pratt_test

import (
	"math"
	"math/big"
	"slices"
	"testing"

	"sortition/api"
	"sortition/limb"
	"sortition/pratt"
	"sortition/sample"
)

const most = math.MaxUint64

var top = api.Nat{most, most, most, most}

func factor(p uint64, e int) api.Factor { return api.Factor{P: limb.Small(p), E: e} }

func factors(l ...uint64) []api.Factor {
	var out []api.Factor
	for _, p := range l {
		out = append(out, factor(p, 1))
	}
	return out
}

func proof(n, g uint64, l ...api.Factor) api.Proof {
	return api.Proof{N: limb.Small(n), G: limb.Small(g), Factors: l}
}

func TestProducts(t *testing.T) {
	many := func(n int, f api.Factor) []api.Factor { return slices.Repeat([]api.Factor{f}, n) }
	for i, c := range []struct {
		l    []api.Factor
		want api.Nat
		e    api.Errno
	}{
		{nil, limb.Small(1), api.OK},
		{factors(2, 3, 7), limb.Small(42), api.OK},
		{[]api.Factor{factor(2, 3), factor(3, 2)}, limb.Small(72), api.OK},
		{[]api.Factor{factor(2, 255)}, api.Nat{3: 1 << 63}, api.OK},
		{[]api.Factor{factor(1, 255)}, limb.Small(1), api.OK},
		{[]api.Factor{factor(2, 256)}, api.Nat{}, api.ErrArg},
		{[]api.Factor{factor(2, 0)}, api.Nat{}, api.ErrArg},
		{[]api.Factor{factor(2, -1)}, api.Nat{}, api.ErrArg},
		{[]api.Factor{factor(1, math.MaxInt)}, api.Nat{}, api.ErrArg},
		{[]api.Factor{factor(1, math.MinInt)}, api.Nat{}, api.ErrArg},
		{[]api.Factor{factor(2, 255), factor(2, 1)}, api.Nat{}, api.ErrOver},
		{[]api.Factor{{P: api.Nat{2: 1}, E: 2}}, api.Nat{}, api.ErrOver},
		{[]api.Factor{{P: api.Nat{1: 1}, E: 4}}, api.Nat{}, api.ErrOver},
		{[]api.Factor{{P: api.Nat{1: 1}, E: 3}}, api.Nat{3: 1}, api.OK},
		{[]api.Factor{{P: top, E: 1}, factor(1, 255)}, top, api.OK},
		{[]api.Factor{{P: top, E: 2}}, api.Nat{}, api.ErrOver},
		{[]api.Factor{{P: top, E: 1}, factor(2, 1)}, api.Nat{}, api.ErrOver},
		{[]api.Factor{factor(2, 255), factor(2, 255), factor(0, 1)}, api.Nat{}, api.OK},
		{[]api.Factor{factor(0, 255), factor(2, 255), factor(2, 255)}, api.Nat{}, api.OK},
		{[]api.Factor{factor(2, 255), factor(2, 255), factor(3, 0)}, api.Nat{}, api.ErrArg},
		{[]api.Factor{factor(0, 1), factor(3, 256)}, api.Nat{}, api.ErrArg},
		{[]api.Factor{factor(0, 0)}, api.Nat{}, api.ErrArg},
		{many(40, factor(1, 1)), limb.Small(1), api.OK},
		{many(40, factor(2, 1)), limb.Small(1 << 40), api.OK},
		{many(41, factor(1, 1)), api.Nat{}, api.ErrLong},
		{many(41, factor(1, 0)), api.Nat{}, api.ErrLong},
		{many(41, factor(2, 255)), api.Nat{}, api.ErrLong},
	} {
		before := slices.Clone(c.l)
		if got, e := pratt.Product(c.l); got != c.want || e != c.e || !slices.Equal(c.l, before) {
			t.Error(i, got, e)
		}
	}
}

// fermat are the factors of 2^256 - 1.
func fermat() []api.Factor {
	l := factors(3, 5, 17, 257, 641, 65537, 274177, 6700417, 67280421310721, 59649589127497217)
	last, _ := new(big.Int).SetString("5704689200685129054721", 10)
	p, _ := limb.Of(last.Bytes())
	return append(l, api.Factor{P: p, E: 1})
}

func TestSteps(t *testing.T) {
	if p, e := pratt.Product(fermat()); p != top || e != api.OK {
		t.Fatal(p, e)
	}
	for i, c := range []struct {
		p api.Proof
		e api.Errno
	}{
		{proof(3, 2, factors(2)...), api.OK},
		{proof(3, 5, factors(2)...), api.OK},
		{proof(3, 1, factors(2)...), api.ErrProof},
		{proof(3, 0, factors(2)...), api.ErrProof},
		{proof(3, 3, factors(2)...), api.ErrProof},
		{proof(7, 3, factors(2, 3)...), api.OK},
		{proof(7, 10, factors(3, 2)...), api.OK},
		{proof(7, 2, factors(2, 3)...), api.ErrProof},    // of order 3
		{proof(7, 6, factors(2, 3)...), api.ErrProof},    // of order 2
		{proof(7, 3, factors(3)...), api.ErrProof},       // not N - 1
		{proof(7, 3, factor(2, 1)), api.ErrProof},        // not N - 1
		{proof(7, 3, factors(2, 3, 2)...), api.ErrProof}, // nor this
		{proof(7, 3), api.ErrProof},
		{proof(7, 3, factors(2, 3, 0)...), api.ErrProof},
		{proof(7, 3, factors(2, 3, 1)...), api.ErrProof}, // 1 is below 2
		{proof(7, 3, factors(6)...), api.OK},             // whether 6 is prime is not asked
		{proof(9, 8, factors(8)...), api.OK},
		{proof(9, 2, factor(2, 3)), api.ErrProof},
		{proof(43, 3, factors(2, 3, 7)...), api.OK},
		{proof(257, 3, factor(2, 8)), api.OK},
		{proof(257, 3, factors(2, 2, 2, 2, 2, 2, 2, 2)...), api.OK},
		{proof(0, 3, fermat()...), api.ErrProof},
		{proof(1, 1), api.ErrProof},
		{proof(1, 1, factors(0)...), api.ErrProof},
		{proof(1, 0, factors(0)...), api.ErrProof},
		{proof(2, 1), api.ErrProof},
		{proof(2, 1, factors(1)...), api.ErrProof},
		{proof(4, 3, factors(3)...), api.ErrProof},
		{proof(6, 5, factors(5)...), api.ErrProof},
		{proof(7, 3, factor(2, 1), factor(3, 0)), api.ErrArg},
		{proof(8, 3, factor(2, 1), factor(3, 0)), api.ErrArg}, // ahead of what is even
		{proof(7, 3, factor(2, 255), factor(3, 255)), api.ErrOver},
		{proof(7, 3, slices.Repeat(factors(2), 41)...), api.ErrLong},
		{proof(0, 3, slices.Repeat(factors(2), 41)...), api.ErrLong},
	} {
		if e := pratt.Step(c.p); e != c.e {
			t.Error(i, e)
		}
	}
}

func TestLists(t *testing.T) {
	three, five, seven := proof(3, 2, factors(2)...), proof(5, 2, factor(2, 2)), proof(7, 3, factors(2, 3)...)
	for i, c := range []struct {
		l []api.Proof
		e api.Errno
	}{
		{nil, api.OK},
		{[]api.Proof{three, seven}, api.OK},
		{[]api.Proof{three, five, seven, three}, api.OK},
		{[]api.Proof{seven}, api.ErrProof},
		{[]api.Proof{seven, three}, api.ErrProof},
		{[]api.Proof{five, seven}, api.ErrProof},
		{[]api.Proof{proof(9, 2, factor(2, 3))}, api.ErrProof},
		{[]api.Proof{proof(7, 3, factors(6)...)}, api.ErrProof},
		{[]api.Proof{proof(3, 2, factors(2, 1)...)}, api.ErrProof},
		{[]api.Proof{three, proof(7, 3, factor(2, 0))}, api.ErrArg},
		{[]api.Proof{three, proof(7, 3, factor(2, 0), factor(5, 1))}, api.ErrProof}, // 5 is not known: ahead of Step's error
		{[]api.Proof{proof(7, 3, slices.Repeat(factors(2), 41)...)}, api.ErrLong},
		{[]api.Proof{proof(7, 3, slices.Repeat(factors(3), 41)...)}, api.ErrProof},
		{[]api.Proof{proof(7, 3, factor(2, 255), factor(2, 255))}, api.ErrOver},
		{[]api.Proof{proof(7, 3, factor(2, 0)), seven}, api.ErrArg}, // proof by proof
		{[]api.Proof{seven, proof(7, 3, factor(2, 0))}, api.ErrProof},
		{[]api.Proof{three, proof(3, 2, factors(3)...)}, api.ErrProof},
		{slices.Repeat([]api.Proof{three}, 40), api.OK},
		{slices.Repeat([]api.Proof{three}, 41), api.ErrLong},
		{slices.Repeat([]api.Proof{seven}, 41), api.ErrLong},
	} {
		if e := pratt.Check(c.l); e != c.e {
			t.Error(i, e)
		}
		for n := range uint64(12) {
			want := c.e
			known := n == 2 || slices.ContainsFunc(c.l, func(p api.Proof) bool { return p.N == limb.Small(n) })
			if want == api.OK && !known {
				want = api.ErrProof
			}
			if e := pratt.Proves(c.l, limb.Small(n)); e != want {
				t.Error(i, n, e)
			}
		}
	}
}

func TestExample(t *testing.T) {
	l := []api.Proof{proof(3, 2, factors(2)...), proof(7, 3, factors(2, 3)...), proof(43, 3, factors(2, 3, 7)...)}
	if e := pratt.Proves(l, limb.Small(43)); e != api.OK {
		t.Error(e)
	}
	p, l := sample.Large()
	if e := pratt.Proves(l, p.Q); e != api.OK {
		t.Error(e)
	}
	more, _ := limb.Add(p.Q, limb.Small(2))
	l[len(l)-1].N = more
	if e := pratt.Check(l); e != api.ErrProof {
		t.Error(e)
	}
}

// TestFollows tries all G for all small numbers: just those that are prime are proved.
func TestFollows(t *testing.T) {
	var known []api.Proof
	for n := uint64(3); n < 120; n++ {
		var l []api.Factor
		rest := n - 1
		for p := uint64(2); rest > 1; p++ {
			f := factor(p, 0)
			for ; rest%p == 0; rest /= p {
				f.E++
			}
			if f.E > 0 {
				l = append(l, f)
			}
		}
		prime := new(big.Int).SetUint64(n).ProbablyPrime(0)
		proved := false
		for g := range n {
			tail := append(trim(known, l), proof(n, g, l...))
			if pratt.Proves(tail, limb.Small(n)) == api.OK {
				proved = true
				known = append(known, proof(n, g, l...))
				break
			}
		}
		if proved != prime {
			t.Error(n, proved)
		}
	}
}

// trim are the proofs that these factors need, and those that these need, in order.
func trim(known []api.Proof, l []api.Factor) []api.Proof {
	need := map[api.Nat]bool{}
	for _, f := range l {
		need[f.P] = true
	}
	var out []api.Proof
	for _, p := range slices.Backward(known) {
		if need[p.N] {
			out = append(out, p)
			for _, f := range p.Factors {
				need[f.P] = true
			}
		}
	}
	slices.Reverse(out)
	return out
}
