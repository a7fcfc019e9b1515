package node

import (
	"math"

	"sortition/api"
	"sortition/codec"
)

// Kinds of Inputs.
const (
	starts = 1 + iota
	submits
	hears
	isOver
	adopts
	deals
	takes
)

// The greatest number that is written as a small one, the longest bytes, and the most Coeffs.
const (
	mostSmall  = 255
	mostBytes  = 3000
	mostCoeffs = 20
)

// Input is what a node is told.
type Input struct {
	Kind   int
	Msg    api.Msg
	Timer  api.Timer
	Tx     []byte
	Coeffs []api.Nat
	Dealer int
	Piece  api.Piece
}

// pen writes what an Input has, and remembers whether something does not fit.
type pen struct {
	codec.Writer
	wrong bool
}

// numbers writes some that may not be too great.
func (p *pen) numbers(l ...int) {
	for _, n := range l {
		p.wrong = p.wrong || n < 0 || n > mostSmall
		p.Small(uint64(n))
	}
}

// text writes bytes that may not be too many.
func (p *pen) text(b []byte) {
	p.wrong = p.wrong || len(b) > mostBytes
	p.Bytes(b)
}

// Encode are an Input's bytes.
func Encode(x Input) ([]byte, api.Errno) {
	var p pen
	p.numbers(x.Kind)
	switch x.Kind {
	case starts:
	case submits, adopts:
		p.text(x.Tx)
	case hears:
		v := x.Msg.Vote
		p.Small(x.Msg.Height)
		p.numbers(v.Kind, v.Round, v.From, v.Valid+1)
		p.Bytes(v.Value[:])
		p.text(x.Msg.Block)
	case isOver:
		p.Small(x.Timer.Height)
		p.numbers(x.Timer.Kind, x.Timer.Round)
	case deals:
		p.wrong = len(x.Coeffs) > mostCoeffs
		p.Nats(x.Coeffs)
	case takes:
		p.numbers(x.Dealer, x.Piece.Slot)
		p.Nat(x.Piece.Share)
	default:
		p.wrong = true
	}
	if p.wrong {
		return nil, api.ErrArg
	}
	return p.Out(), api.OK
}

// Decode is bytes' Input.
func Decode(b []byte) (Input, api.Errno) {
	r := codec.New(b)
	x := Input{Kind: number(r)}
	shaped := true
	switch x.Kind {
	case starts:
	case submits, adopts:
		x.Tx = r.Bytes(mostBytes)
	case hears:
		x.Msg, shaped = message(r)
	case isOver:
		x.Timer = api.Timer{Height: r.Small(math.MaxUint64), Kind: number(r), Round: number(r)}
	case deals:
		x.Coeffs = r.Nats(mostCoeffs)
	case takes:
		x.Dealer = number(r)
		x.Piece = api.Piece{Slot: number(r), Share: r.Nat()}
	default:
		shaped = false
	}
	if e := r.End(); e != api.OK {
		return Input{}, e
	}
	if !shaped {
		return Input{}, api.ErrShape
	}
	return x, api.OK
}

// number reads one that may not be too great.
func number(r *codec.Reader) int { return int(r.Small(mostSmall)) }

// message reads one, and tells whether its value has as many bytes as a digest.
func message(r *codec.Reader) (api.Msg, bool) {
	m := api.Msg{Height: r.Small(math.MaxUint64)}
	m.Vote = api.Vote{Kind: number(r), Round: number(r), From: number(r), Valid: number(r) - 1}
	value := r.Bytes(mostBytes)
	copy(m.Vote.Value[:], value)
	m.Block = r.Bytes(mostBytes)
	return m, len(value) == len(m.Vote.Value)
}
