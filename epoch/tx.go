package epoch

import (
	"sortition/api"
	"sortition/codec"
)

// The greatest numbers that a Tx has, and the most commits.
const (
	mostSmall   = 255
	mostCommits = 20
)

// kind tells whether there is one.
func kind(n int) bool { return n >= api.TxDeal && n <= api.TxUnbond }

// Encode are a Tx's bytes.
func Encode(t api.Tx) ([]byte, api.Errno) {
	if !kind(t.Kind) || len(t.Commits) > mostCommits {
		return nil, api.ErrArg
	}
	var w codec.Writer
	for _, n := range []int{t.Kind, t.From, t.Dealer, t.Slot} {
		if n < 0 || n > mostSmall {
			return nil, api.ErrArg
		}
		w.Small(uint64(n))
	}
	w.Nats(t.Commits)
	w.Nat(t.Value)
	return w.Out(), api.OK
}

// Decode is bytes' Tx.
func Decode(b []byte) (api.Tx, api.Errno) {
	r := codec.New(b)
	small := func() int { return int(r.Small(mostSmall)) }
	t := api.Tx{Kind: small(), From: small(), Dealer: small(), Slot: small(), Commits: r.Nats(mostCommits), Value: r.Nat()}
	e := r.End()
	if e == api.OK && !kind(t.Kind) {
		e = api.ErrShape
	}
	if e != api.OK {
		return api.Tx{}, e
	}
	return t, api.OK
}
