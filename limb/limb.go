// Package limb is layer 1: numbers of many words.
package limb

import (
	"cmp"
	"math/bits"

	"sortition/api"
)

// How many words a number has, how many bits, and how many bytes.
const (
	words  = 4
	size   = 64 * words
	wide   = 2 * size
	octets = size / 8
)

// Small is a small number.
func Small(n uint64) api.Nat { return api.Nat{n} }

// Add is a sum, and what left it.
func Add(a, b api.Nat) (sum api.Nat, carry uint64) {
	for i := range words {
		sum[i], carry = bits.Add64(a[i], b[i], carry)
	}
	return sum, carry
}

// Sub is a difference, and whether it was below 0.
func Sub(a, b api.Nat) (less api.Nat, borrow uint64) {
	for i := range words {
		less[i], borrow = bits.Sub64(a[i], b[i], borrow)
	}
	return less, borrow
}

// Cmp holds two numbers against each other.
func Cmp(a, b api.Nat) int {
	order := 0
highest:
	for i := range words {
		order = cmp.Compare(a[words-1-i], b[words-1-i])
		if order != 0 {
			break highest // the words below it count for nothing
		}
	}
	return order
}

// Mul is a product.
func Mul(a, b api.Nat) api.Wide {
	var w api.Wide
	for i := range words {
		var carry uint64
		for k := range words {
			w[i+k], carry = gather(a[i], b[k], w[i+k], carry)
		}
		w[i+words] = carry
	}
	return w
}

// gather is a by b, and c and d: that never leaves two words.
func gather(a, b, c, d uint64) (low, high uint64) {
	high, low = bits.Mul64(a, b)
	low, carry := bits.Add64(low, c, 0)
	high += carry
	low, carry = bits.Add64(low, d, 0)
	return low, high + carry
}

// Len is how many bits a number has.
func Len(a api.Nat) int {
	n := 0
	for i := range words {
		if a[i] != 0 {
			n = 64*i + bits.Len64(a[i])
		}
	}
	return n
}

// Bit is one of its bits.
func Bit(a api.Nat, i int) uint64 {
	if i < 0 || i >= size {
		return 0
	}
	return a[i/64] >> (i % 64) & 1
}

// Shift moves its bits.
func Shift(a api.Nat, n int) api.Nat {
	switch {
	case n >= size || n <= -size:
		return api.Nat{}
	case n >= 0:
		return up(a, n)
	}
	return down(a, -n)
}

// up moves bits to higher places.
func up(a api.Nat, n int) api.Nat {
	var moved api.Nat
	far, near := n/64, n%64
	for i := range words - far {
		moved[i+far] |= a[i] << near
		if i+far+1 < words {
			moved[i+far+1] = a[i] >> (64 - near)
		}
	}
	return moved
}

// down moves bits to lower places.
func down(a api.Nat, n int) api.Nat {
	var moved api.Nat
	far, near := n/64, n%64
	for i := range words - far {
		moved[i] = a[i+far] >> near
		if i+far+1 < words {
			moved[i] |= a[i+far+1] << (64 - near)
		}
	}
	return moved
}

// Rem is what is left of a wide number.
func Rem(w api.Wide, m api.Nat) (api.Nat, api.Errno) {
	if m == (api.Nat{}) {
		return api.Nat{}, api.ErrZero
	}
	var rest api.Nat
	for i := range wide {
		at := wide - 1 - i
		rest, _ = bring(rest, w[at/64]>>(at%64)&1, m)
	}
	return rest, api.OK
}

// Div divides.
func Div(a, m api.Nat) (quotient, rest api.Nat, e api.Errno) {
	if m == (api.Nat{}) {
		return api.Nat{}, api.Nat{}, api.ErrZero
	}
	n := Len(a)
	for i := range n {
		at := n - 1 - i
		var fits uint64
		rest, fits = bring(rest, Bit(a, at), m)
		quotient[at/64] |= fits << (at % 64)
	}
	return quotient, rest, api.OK
}

// bring sets one bit more behind a rest below m, and tells what is left then, and whether m was in it.
func bring(rest api.Nat, bit uint64, m api.Nat) (api.Nat, uint64) {
	twice, left := Add(rest, rest)
	twice[0] |= bit
	less, borrow := Sub(twice, m)
	if left == 0 && borrow == 1 {
		return twice, 0
	}
	return less, 1
}

// Bytes are a number's.
func Bytes(a api.Nat) []byte {
	b := make([]byte, octets)
	for i := range octets {
		b[octets-1-i] = byte(a[i/8] >> (i % 8 * 8))
	}
	return b
}

// Of is bytes' number.
func Of(b []byte) (api.Nat, api.Errno) {
	if len(b) > octets {
		return api.Nat{}, api.ErrLong
	}
	var a api.Nat
	for i := range len(b) {
		a[i/8] |= uint64(b[len(b)-1-i]) << (i % 8 * 8)
	}
	return a, api.OK
}
