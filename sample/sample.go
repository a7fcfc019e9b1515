// Package sample has groups in which the tests of several layers reckon, and the proofs of their orders.
package sample

import "sortition/api"

// Small is the group of order 11 modulo 23 that the document's examples take.
func Small() (api.Params, []api.Proof) {
	p := api.Params{P: api.Nat{23}, Q: api.Nat{11}, G: api.Nat{4}}
	return p, []api.Proof{proof(5, 2, factor(2, 2)), proof(11, 2, factor(2, 1), factor(5, 1))}
}

// Large is one whose order has 255 bits.
func Large() (api.Params, []api.Proof) {
	p := api.Params{
		P: api.Nat{0x5244604d9b6f0003, 0x033946a3d19b692a, 0xf70a069b0b3c2236, 0xb16888523bddcef5},
		Q: api.Nat{0x29223026cdb78001, 0x019ca351e8cdb495, 0xfb85034d859e111b, 0x58b444291deee77a},
		G: api.Nat{4},
	}
	return p, []api.Proof{
		proof(3, 2, factor(2, 1)),
		proof(5, 2, factor(2, 2)),
		proof(7, 3, factor(2, 1), factor(3, 1)),
		proof(11, 2, factor(2, 1), factor(5, 1)),
		proof(13, 2, factor(2, 2), factor(3, 1)),
		{N: p.Q, G: api.Nat{3}, Factors: []api.Factor{factor(2, 15), factor(5, 21), factor(7, 23), factor(11, 14), factor(13, 21)}},
	}
}

func factor(p uint64, e int) api.Factor { return api.Factor{P: api.Nat{p}, E: e} }

func proof(n, g uint64, l ...api.Factor) api.Proof {
	return api.Proof{N: api.Nat{n}, G: api.Nat{g}, Factors: l}
}
