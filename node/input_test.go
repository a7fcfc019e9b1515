package node_test

import (
	"bytes"
	"math"
	"slices"
	"testing"

	"sortition/api"
	"sortition/codec"
	"sortition/node"
)

const top = math.MaxUint64

func sameInput(a, b node.Input) bool {
	return a.Kind == b.Kind && a.Msg.Height == b.Msg.Height && a.Msg.Vote == b.Msg.Vote && bytes.Equal(a.Msg.Block, b.Msg.Block) && a.Timer == b.Timer && bytes.Equal(a.Tx, b.Tx) && slices.Equal(a.Coeffs, b.Coeffs) && a.Dealer == b.Dealer && a.Piece == b.Piece
}

// written writes numbers, bytes, lists of numbers, and numbers of many words.
func written(l ...any) []byte {
	var w codec.Writer
	for _, x := range l {
		switch y := x.(type) {
		case int:
			w.Small(uint64(y))
		case uint64:
			w.Small(y)
		case []byte:
			w.Bytes(y)
		case []api.Nat:
			w.Nats(y)
		case api.Nat:
			w.Nat(y)
		}
	}
	return w.Out()
}

func heard(height uint64, v api.Vote, block []byte) node.Input {
	return node.Input{Kind: 3, Msg: api.Msg{Height: height, Vote: v, Block: block}}
}

func TestEncodes(t *testing.T) {
	d := api.Digest{1, 31: 2}
	long := make([]byte, 3000)
	many := slices.Repeat([]api.Nat{{1, 2, 3, 4}}, 20)
	for i, c := range []struct {
		x    node.Input
		want []byte
	}{
		{node.Input{Kind: 1}, []byte{1, 1}},
		{node.Input{Kind: 2}, []byte{1, 2, 0}},
		{node.Input{Kind: 2, Tx: []byte{7}}, []byte{1, 2, 1, 1, 7}},
		{node.Input{Kind: 2, Tx: long}, written(2, long)},
		{node.Input{Kind: 5, Tx: long}, written(5, long)},
		{node.Input{Kind: 5, Tx: []byte{7}}, []byte{1, 5, 1, 1, 7}},
		{heard(9, api.Vote{Kind: 1, Round: 2, From: 3, Value: d, Valid: -1}, []byte{8}), written(3, 9, 1, 2, 3, 0, d[:], []byte{8})},
		{heard(top, api.Vote{Kind: 255, Round: 255, From: 255, Value: d, Valid: 254}, long), written(3, uint64(top), 255, 255, 255, 255, d[:], long)},
		{heard(0, api.Vote{}, nil), written(3, 0, 0, 0, 0, 1, make([]byte, 32), []byte{})},
		{node.Input{Kind: 4, Timer: api.Timer{Height: top, Kind: 255, Round: 255}}, written(4, uint64(top), 255, 255)},
		{node.Input{Kind: 4, Timer: api.Timer{Height: 1, Kind: 2, Round: 3}}, []byte{1, 4, 1, 1, 1, 2, 1, 3}},
		{node.Input{Kind: 6}, []byte{1, 6, 0}},
		{node.Input{Kind: 6, Coeffs: many}, written(6, many)},
		{node.Input{Kind: 7, Dealer: 255, Piece: api.Piece{Slot: 255, Share: api.Nat{top, top, top, top}}}, written(7, 255, 255, api.Nat{top, top, top, top})},
		{node.Input{Kind: 7, Dealer: 1, Piece: api.Piece{Slot: 2, Share: api.Nat{3}}}, written(7, 1, 2, api.Nat{3})},
	} {
		b, e := node.Encode(c.x)
		if !bytes.Equal(b, c.want) || e != api.OK {
			t.Error(i, b, e)
			continue
		}
		if x, e := node.Decode(b); !sameInput(x, c.x) || e != api.OK {
			t.Error(i, x, e)
		}
		for cut := range b {
			if cut > 150 && cut < len(b)-5 {
				continue
			}
			if x, e := node.Decode(b[:cut]); !sameInput(x, node.Input{}) || e != api.ErrShort {
				t.Error(i, cut, x, e)
			}
		}
		if x, e := node.Decode(append(b, 0)); !sameInput(x, node.Input{}) || e != api.ErrTail {
			t.Error(i, x, e)
		}
	}
}

func TestEncodeErrors(t *testing.T) {
	wrong := []int{-1, 256, math.MinInt, math.MaxInt}
	var l []node.Input
	for _, n := range append(wrong, 0, 8) {
		l = append(l, node.Input{Kind: n})
	}
	for _, n := range wrong {
		l = append(l,
			heard(0, api.Vote{Kind: n}, nil), heard(0, api.Vote{Round: n}, nil), heard(0, api.Vote{From: n}, nil),
			node.Input{Kind: 4, Timer: api.Timer{Kind: n}}, node.Input{Kind: 4, Timer: api.Timer{Round: n}},
			node.Input{Kind: 7, Dealer: n}, node.Input{Kind: 7, Piece: api.Piece{Slot: n}})
	}
	for _, n := range []int{-2, 255, math.MinInt, math.MaxInt} {
		l = append(l, heard(0, api.Vote{Valid: n}, nil))
	}
	long := make([]byte, 3001)
	l = append(l, node.Input{Kind: 2, Tx: long}, node.Input{Kind: 5, Tx: long}, heard(0, api.Vote{}, long), node.Input{Kind: 6, Coeffs: make([]api.Nat, 21)})
	for i, x := range l {
		if b, e := node.Encode(x); len(b) != 0 || e != api.ErrArg {
			t.Error(i, x.Kind, b, e)
		}
	}
}

// TestUnused: what its kind does not use does not matter, and is not written.
func TestUnused(t *testing.T) {
	all := node.Input{Msg: api.Msg{Height: 1, Vote: api.Vote{Kind: -1, Round: 999, From: -1, Valid: 999}, Block: make([]byte, 4000)}, Timer: api.Timer{Height: 5, Kind: -5, Round: 999}, Tx: make([]byte, 4000), Coeffs: make([]api.Nat, 30), Dealer: -1, Piece: api.Piece{Slot: 999, Share: api.Nat{4}}}
	for kind := 1; kind <= 7; kind++ {
		x, want := all, node.Input{Kind: kind}
		x.Kind = kind
		switch kind {
		case 2, 5:
			x.Tx = []byte{1}
			want.Tx = x.Tx
		case 3:
			x.Msg = api.Msg{Height: 7, Vote: api.Vote{Kind: 1, Valid: -1}}
			want.Msg = x.Msg
		case 4:
			x.Timer = api.Timer{Height: 3, Kind: 4, Round: 5}
			want.Timer = x.Timer
		case 6:
			x.Coeffs = []api.Nat{{5}}
			want.Coeffs = x.Coeffs
		case 7:
			x.Dealer, x.Piece = 3, api.Piece{Slot: 4, Share: api.Nat{4}}
			want.Dealer, want.Piece = x.Dealer, x.Piece
		}
		b, e := node.Encode(x)
		if e != api.OK {
			t.Error(kind, e)
		}
		if y, e := node.Decode(b); !sameInput(y, want) || e != api.OK {
			t.Error(kind, y, e)
		}
	}
}

func TestDecodeErrors(t *testing.T) {
	d := make([]byte, 32)
	for i, c := range []struct {
		b []byte
		e api.Errno
	}{
		{nil, api.ErrShort},
		{[]byte{0}, api.ErrShape},
		{written(8), api.ErrShape},
		{written(255), api.ErrShape},
		{written(256), api.ErrLong},
		{append(written(8), 1), api.ErrTail}, // ahead of its shape
		{[]byte{0, 0}, api.ErrTail},
		{[]byte{9}, api.ErrShape},
		{[]byte{1, 0}, api.ErrShape},
		{append(written(1), 0), api.ErrTail},
		{written(2, make([]byte, 3001)), api.ErrLong},
		{written(5, make([]byte, 3001)), api.ErrLong},
		{written(3, 9, 256, 0, 0, 0, d, []byte{}), api.ErrLong},
		{written(3, 9, 0, 256, 0, 0, d, []byte{}), api.ErrLong},
		{written(3, 9, 0, 0, 256, 0, d, []byte{}), api.ErrLong},
		{written(3, 9, 0, 0, 0, 256, d, []byte{}), api.ErrLong},
		{written(3, 9, 0, 0, 0, 0, d, make([]byte, 3001)), api.ErrLong},
		{written(3, 9, 0, 0, 0, 0, make([]byte, 3001), []byte{}), api.ErrLong},
		{written(3, 9, 0, 0, 0, 0, d[:31], []byte{}), api.ErrShape},
		{written(3, 9, 0, 0, 0, 0, make([]byte, 33), []byte{}), api.ErrShape},
		{written(3, 9, 0, 0, 0, 0, make([]byte, 3000), []byte{}), api.ErrShape},
		{written(3, 9, 0, 0, 0, 0, []byte{}, []byte{}), api.ErrShape},
		{append(written(3, 9, 0, 0, 0, 0, d[:31], []byte{}), 0), api.ErrTail},
		{written(3, 9, 0, 0, 0, 0, d[:31]), api.ErrShort},
		{written(4, 9, 256, 0), api.ErrLong},
		{written(4, 9, 0, 256), api.ErrLong},
		{written(6, make([]api.Nat, 21)), api.ErrLong},
		{written(7, 256, 0, api.Nat{}), api.ErrLong},
		{written(7, 0, 256, api.Nat{}), api.ErrLong},
	} {
		if x, e := node.Decode(c.b); !sameInput(x, node.Input{}) || e != c.e {
			t.Error(i, x, e)
		}
	}
}
