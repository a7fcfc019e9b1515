package bft_test

import (
	"bytes"
	"math"
	"slices"
	"testing"

	"sortition/api"
	"sortition/bft"
	"sortition/pool"
)

const top = math.MaxUint64

var none api.Digest

func made(t *testing.T, stakes []uint64, me int) *bft.Node {
	t.Helper()
	n, e := bft.New(stakes, me)
	if e != api.OK || n == nil {
		t.Fatal(stakes, me, e)
	}
	return n
}

// four is who me of four with one stake each.
func four(t *testing.T, me int) *bft.Node { return made(t, []uint64{1, 1, 1, 1}, me) }

func block(t *testing.T, height uint64, l ...string) []byte {
	t.Helper()
	var txs [][]byte
	for _, s := range l {
		txs = append(txs, []byte(s))
	}
	b, e := pool.Pack(height, txs)
	if e != api.OK {
		t.Fatal(e)
	}
	return b
}

// proposal proposes a block.
func proposal(b []byte, height uint64, r, from, valid int) api.Msg {
	return api.Msg{Height: height, Vote: api.Vote{Kind: api.Proposal, Round: r, From: from, Value: pool.Name(b), Valid: valid}, Block: b}
}

func vote(kind int, height uint64, r, from int, v api.Digest) api.Msg {
	return api.Msg{Height: height, Vote: api.Vote{Kind: kind, Round: r, From: from, Value: v}}
}

func timer(height uint64, kind, r int) api.Timer {
	return api.Timer{Height: height, Kind: kind, Round: r}
}

func same(a, b bft.Out) bool {
	return slices.EqualFunc(a.Msgs, b.Msgs, func(x, y api.Msg) bool {
		return x.Height == y.Height && x.Vote == y.Vote && bytes.Equal(x.Block, y.Block)
	}) && slices.Equal(a.Timers, b.Timers) && slices.EqualFunc(a.Blocks, b.Blocks, bytes.Equal)
}

func tells(t *testing.T, what string, got, want bft.Out) {
	t.Helper()
	if !same(got, want) {
		t.Errorf("%s: %v; want %v", what, got, want)
	}
}

func hears(t *testing.T, n *bft.Node, m api.Msg, want bft.Out) {
	t.Helper()
	got, e := n.Hear(m)
	if e != api.OK {
		t.Error("Hear", m.Vote, e)
	}
	tells(t, "Hear", got, want)
}

func refuses(t *testing.T, n *bft.Node, m api.Msg, want api.Errno) {
	t.Helper()
	got, e := n.Hear(m)
	if e != want {
		t.Error("Hear", m, e, "want", want)
	}
	tells(t, "refused", got, bft.Out{})
}

func stands(t *testing.T, n *bft.Node, height uint64, r int, waits ...string) {
	t.Helper()
	w := n.Waits()
	if n.Height() != height || n.Round() != r || len(n.Log()) != int(height) || len(w) != len(waits) {
		t.Errorf("%d, %d, %d, %q", n.Height(), n.Round(), len(n.Log()), w)
		return
	}
	for i, s := range waits {
		if string(w[i]) != s {
			t.Errorf("waits: %q; want %q", w, waits)
		}
	}
}

func msgs(l ...api.Msg) bft.Out { return bft.Out{Msgs: l} }

func TestNew(t *testing.T) {
	for i, c := range []struct {
		stakes []uint64
		me     int
		e      api.Errno
	}{
		{[]uint64{1}, 0, api.OK},
		{[]uint64{0, 0}, 1, api.OK},
		{slices.Repeat([]uint64{1}, 40), 39, api.OK},
		{nil, 0, api.ErrLong},
		{slices.Repeat([]uint64{1}, 41), 0, api.ErrLong},
		{[]uint64{top, top}, 5, api.ErrOver},
		{[]uint64{1}, 1, api.ErrArg},
		{[]uint64{1}, -1, api.ErrArg},
		{[]uint64{1}, math.MinInt, api.ErrArg},
		{[]uint64{1}, math.MaxInt, api.ErrArg},
	} {
		before := slices.Clone(c.stakes)
		n, e := bft.New(c.stakes, c.me)
		if e != c.e || (n == nil) != (e != api.OK) || !slices.Equal(c.stakes, before) {
			t.Error(i, n, e)
		}
		if n != nil {
			stands(t, n, 0, 0)
		}
	}
}

func TestExample(t *testing.T) {
	n := made(t, []uint64{1}, 0)
	if e := n.Submit([]byte("a")); e != api.OK {
		t.Error(e)
	}
	for height, txs := range [][]string{nil, {"a"}, nil} {
		h, b := uint64(height), block(t, uint64(height), txs...)
		v := pool.Name(b)
		want := bft.Out{
			Msgs:   []api.Msg{proposal(b, h, 0, 0, -1), vote(2, h, 0, 0, v), vote(3, h, 0, 0, v)},
			Timers: []api.Timer{timer(h, 5, 0), timer(h+1, 7, 0)},
			Blocks: [][]byte{b},
		}
		if height == 0 {
			tells(t, "Start", n.Start(), want)
		} else {
			tells(t, "Start", n.Start(), bft.Out{})
			tells(t, "Timeout", n.Timeout(timer(h, 7, 0)), want)
		}
		if l := n.Log(); !bytes.Equal(l[height], b) {
			t.Error(l)
		}
	}
	stands(t, n, 3, 0)
}

// TestOwnBlock: it has the first five that wait when the state is made; what was decided waits no more.
func TestOwnBlock(t *testing.T) {
	n := made(t, []uint64{1}, 0)
	for _, s := range []string{"a", "b", "c", "d", "e", "f", "g"} {
		n.Submit([]byte(s))
	}
	if e := n.Submit([]byte("c")); e != api.ErrSame {
		t.Error(e)
	}
	if e := n.Submit(nil); e != api.ErrLong {
		t.Error(e)
	}
	stands(t, n, 0, 0, "a", "b", "c", "d", "e", "f", "g")
	n.Start()
	stands(t, n, 1, 0, "a", "b", "c", "d", "e", "f", "g")
	if out := n.Timeout(timer(1, 7, 0)); len(out.Blocks) != 1 || !bytes.Equal(out.Blocks[0], block(t, 1, "a", "b", "c", "d", "e")) {
		t.Error(out)
	}
	stands(t, n, 2, 0, "f", "g")
	if e := n.Submit([]byte("c")); e != api.ErrSame {
		t.Error("what was decided waits again", e)
	}
	n.Submit([]byte("h")) // the block of height 2 is made
	if out := n.Timeout(timer(2, 7, 0)); !bytes.Equal(out.Blocks[0], block(t, 2, "f", "g")) {
		t.Error(out)
	}
	stands(t, n, 3, 0, "h")
}

func TestStart(t *testing.T) {
	n := four(t, 1)
	tells(t, "Start", n.Start(), bft.Out{Timers: []api.Timer{timer(0, 4, 0)}})
	tells(t, "Start", n.Start(), bft.Out{})
	tells(t, "its timer", n.Timeout(timer(0, 7, 0)), bft.Out{})
	n = four(t, 1)
	tells(t, "its timer alone", n.Timeout(timer(0, 7, 0)), bft.Out{Timers: []api.Timer{timer(0, 4, 0)}})
	n = four(t, 0)
	b := block(t, 0)
	tells(t, "who proposes", n.Start(), msgs(proposal(b, 0, 0, 0, -1), vote(2, 0, 0, 0, pool.Name(b))))
}

// TestOneHeight goes through a height of four, as who 1, and into the next one, which who 1 proposes.
func TestOneHeight(t *testing.T) {
	n := four(t, 1)
	b := block(t, 0, "x", "y")
	v := pool.Name(b)
	n.Submit([]byte("y"))
	n.Submit([]byte("z"))
	n.Start()
	hears(t, n, proposal(b, 0, 0, 0, -1), msgs(vote(2, 0, 0, 1, v)))
	hears(t, n, vote(2, 0, 0, 0, v), bft.Out{})
	hears(t, n, vote(2, 0, 0, 2, v), bft.Out{Msgs: []api.Msg{vote(3, 0, 0, 1, v)}, Timers: []api.Timer{timer(0, 5, 0)}})
	hears(t, n, vote(3, 0, 0, 3, v), bft.Out{})
	hears(t, n, vote(3, 0, 0, 2, v), bft.Out{Timers: []api.Timer{timer(1, 7, 0)}, Blocks: [][]byte{b}})
	stands(t, n, 1, 0, "z")
	if l := n.Log(); !bytes.Equal(l[0], b) {
		t.Error(l)
	}
	refuses(t, n, vote(3, 0, 0, 0, v), api.ErrOld)
	if n.Submit([]byte("x")) != api.ErrSame || n.Submit([]byte("y")) != api.ErrSame {
		t.Error("what was decided waits")
	}
	hears(t, n, vote(2, 1, 0, 0, v), bft.Out{}) // ahead of its Start
	refuses(t, n, vote(2, 1, 0, 0, v), api.ErrSame)
	own := block(t, 1, "z")
	tells(t, "next", n.Timeout(timer(1, 7, 0)), msgs(proposal(own, 1, 0, 1, -1), vote(2, 1, 0, 1, pool.Name(own))))
	tells(t, "Start", n.Start(), bft.Out{})
}

func TestWrongMessages(t *testing.T) {
	b, other := block(t, 1, "x"), block(t, 1, "y")
	v := pool.Name(b)
	with := func(m api.Msg, block []byte) api.Msg {
		m.Block = block
		return m
	}
	n := four(t, 2)
	if _, e := n.Adopt(block(t, 0)); e != api.OK {
		t.Fatal(e)
	}
	n.Timeout(timer(1, 7, 0)) // who 1 proposes
	for _, c := range []struct {
		m api.Msg
		e api.Errno
	}{
		{vote(2, 0, 0, 0, v), api.ErrOld},
		{vote(2, 2, 0, 0, v), api.ErrAhead},
		{vote(2, top, 0, 0, v), api.ErrAhead},
		{vote(2, 1<<63, 0, 0, v), api.ErrAhead},
		{proposal(block(t, 0, "x"), 0, 0, 0, -1), api.ErrOld},
		{proposal([]byte{9}, 0, 0, 0, -1), api.ErrOld}, // ahead of ErrShape
		{proposal([]byte{9}, 2, 0, 0, -1), api.ErrAhead},
		{with(vote(2, 0, 0, 0, v), b), api.ErrOld},
		{with(vote(2, 2, 0, 0, v), b), api.ErrAhead},
		{proposal(nil, 1, 0, 1, -1), api.ErrShape},
		{proposal([]byte{9}, 1, 0, 1, -1), api.ErrShape},
		{proposal(append(bytes.Clone(b), 0), 1, 0, 1, -1), api.ErrShape},
		{proposal(block(t, 0, "x"), 1, 0, 1, -1), api.ErrShape}, // of another height
		{proposal(block(t, 2, "x"), 1, 0, 1, -1), api.ErrShape},
		{with(proposal(b, 1, 0, 1, -1), other), api.ErrShape}, // of another name
		{with(proposal(b, 1, 0, 1, -1), nil), api.ErrShape},
		{with(proposal(b, 1, 61, 9, -1), other), api.ErrShape}, // ahead of the state's
		{proposal(b, 1, 61, 1, -1), api.ErrArg},
		{proposal(b, 1, 0, 0, -1), api.ErrArg},
		{proposal(b, 1, 0, 1, 0), api.ErrArg},
		{with(vote(2, 1, 0, 0, v), b), api.ErrLong},
		{with(vote(3, 1, 0, 0, v), []byte{0}), api.ErrLong},
		{with(vote(9, 1, 99, 99, v), []byte{0}), api.ErrLong},
		{vote(0, 1, 0, 0, v), api.ErrArg},
		{vote(4, 1, 0, 0, v), api.ErrArg},
		{vote(7, 1, 0, 0, v), api.ErrArg},
		{vote(2, 1, 61, 0, v), api.ErrArg},
		{vote(2, 1, -1, 0, v), api.ErrArg},
		{vote(3, 1, 0, 4, v), api.ErrArg},
		{vote(3, 1, 0, -1, v), api.ErrArg},
		{vote(math.MinInt, 1, math.MaxInt, math.MinInt, v), api.ErrArg},
	} {
		refuses(t, n, c.m, c.e)
	}
	stands(t, n, 1, 0)
	hears(t, n, vote(3, 1, 0, 0, v), bft.Out{})
	refuses(t, n, vote(3, 1, 0, 0, v), api.ErrSame)
	refuses(t, n, vote(3, 1, 0, 0, none), api.ErrFull)
	hears(t, n, with(vote(3, 1, 0, 1, v), []byte{}), bft.Out{}) // an empty block is none
	hears(t, n, proposal(b, 1, 0, 1, -1), msgs(vote(2, 1, 0, 2, v)))
	refuses(t, n, proposal(b, 1, 0, 1, -1), api.ErrSame)
	refuses(t, n, proposal(other, 1, 0, 1, -1), api.ErrFull)
	n = made(t, []uint64{1, 0}, 0)
	refuses(t, n, vote(2, 0, 0, 1, v), api.ErrNone)
}

// TestGood: a block that has something that was done is not good, and what is decided is decided all the same.
func TestGood(t *testing.T) {
	n := four(t, 0)
	if _, e := n.Adopt(block(t, 0, "x")); e != api.OK {
		t.Fatal(e)
	}
	n.Timeout(timer(1, 7, 0))
	b := block(t, 1, "y", "x", "z")
	v := pool.Name(b)
	hears(t, n, proposal(b, 1, 0, 1, -1), msgs(vote(2, 1, 0, 0, none)))
	for _, who := range []int{1, 2} {
		hears(t, n, vote(2, 1, 0, who, v), map[int]bft.Out{2: {Timers: []api.Timer{timer(1, 5, 0)}}}[who])
	}
	hears(t, n, vote(2, 1, 0, 3, v), bft.Out{}) // no lock
	for _, who := range []int{1, 2} {
		hears(t, n, vote(3, 1, 0, who, v), bft.Out{})
	}
	hears(t, n, vote(3, 1, 0, 3, v), bft.Out{Timers: []api.Timer{timer(2, 7, 0)}, Blocks: [][]byte{b}})
	if n.Submit([]byte("y")) != api.ErrSame || n.Submit([]byte("z")) != api.ErrSame {
		t.Error("done")
	}
	n = four(t, 0)
	n.Adopt(block(t, 0, "x"))
	n.Timeout(timer(1, 7, 0))
	c := block(t, 1, "y", "z")
	hears(t, n, proposal(c, 1, 0, 1, -1), msgs(vote(2, 1, 0, 0, pool.Name(c))))
}

// TestValidBlock: who proposes what was valid tells that block, which it knows of a proposal that counted.
func TestValidBlock(t *testing.T) {
	n := four(t, 1)
	n.Start()
	b := block(t, 0, "x")
	v := pool.Name(b)
	n.Hear(proposal(b, 0, 0, 0, -1))
	n.Hear(vote(2, 0, 0, 0, v))
	n.Hear(vote(2, 0, 0, 2, v))
	tells(t, "timer 6", n.Timeout(timer(0, 6, 0)), msgs(proposal(b, 0, 1, 1, 0), vote(2, 0, 1, 1, v)))
	stands(t, n, 0, 1)
	tells(t, "timer 6", n.Timeout(timer(0, 6, 1)), bft.Out{Timers: []api.Timer{timer(0, 4, 2)}})
}

// TestOwnVotesAreHeard: what others said in its name ahead of it counts; else its own votes count at once.
func TestOwnVotesAreHeard(t *testing.T) {
	n := four(t, 1)
	n.Start()
	b := block(t, 0, "x")
	v := pool.Name(b)
	hears(t, n, vote(2, 0, 0, 1, none), bft.Out{}) // forged
	hears(t, n, proposal(b, 0, 0, 0, -1), msgs(vote(2, 0, 0, 1, v)))
	refuses(t, n, vote(2, 0, 0, 1, v), api.ErrFull)
	n = four(t, 1)
	n.Start()
	hears(t, n, proposal(b, 0, 0, 0, -1), msgs(vote(2, 0, 0, 1, v)))
	refuses(t, n, vote(2, 0, 0, 1, v), api.ErrSame)
	refuses(t, n, vote(2, 0, 0, 1, none), api.ErrFull)
}

// TestOrder: what comes of an own message is done behind what was to be done already.
func TestOrder(t *testing.T) {
	n := four(t, 0)
	for who := 1; who <= 3; who++ {
		hears(t, n, vote(3, 0, 0, who, api.Digest{byte(who)}), bft.Out{})
	}
	for who := 1; who <= 2; who++ {
		hears(t, n, vote(2, 0, 0, who, none), bft.Out{})
	}
	b := block(t, 0)
	tells(t, "Start", n.Start(), bft.Out{
		Msgs:   []api.Msg{proposal(b, 0, 0, 0, -1), vote(2, 0, 0, 0, pool.Name(b))},
		Timers: []api.Timer{timer(0, 6, 0), timer(0, 5, 0)},
	})
}

func TestTimeouts(t *testing.T) {
	n := four(t, 1)
	n.Start()
	for _, x := range []api.Timer{timer(1, 4, 0), timer(1, 7, 0), timer(top, 4, 0), timer(0, 7, 1), timer(0, 7, -1), timer(0, 4, 1), timer(0, 5, 0), timer(0, 0, 0), timer(0, math.MinInt, math.MaxInt)} {
		tells(t, "nothing", n.Timeout(x), bft.Out{})
	}
	tells(t, "timer 4", n.Timeout(timer(0, 4, 0)), msgs(vote(2, 0, 0, 1, none)))
	tells(t, "timer 5", n.Timeout(timer(0, 5, 0)), msgs(vote(3, 0, 0, 1, none)))
	b := block(t, 0)
	tells(t, "timer 6", n.Timeout(timer(0, 6, 0)), msgs(proposal(b, 0, 1, 1, -1), vote(2, 0, 1, 1, pool.Name(b))))
	n.Adopt(block(t, 0))
	tells(t, "old", n.Timeout(timer(0, 6, 1)), bft.Out{})
	tells(t, "it has not begun", n.Timeout(timer(1, 4, 0)), bft.Out{})
	tells(t, "nor by another round", n.Timeout(timer(1, 7, 1)), bft.Out{})
	tells(t, "begins", n.Timeout(timer(1, 7, 0)), msgs(proposal(block(t, 1), 1, 0, 1, -1), vote(2, 1, 0, 1, pool.Name(block(t, 1)))))
	tells(t, "once", n.Timeout(timer(1, 7, 0)), bft.Out{})
}

func TestAdopts(t *testing.T) {
	n := four(t, 1)
	n.Submit([]byte("x"))
	n.Submit([]byte("y"))
	for _, c := range []struct {
		b []byte
		e api.Errno
	}{
		{nil, api.ErrShape},
		{[]byte{1, 0}, api.ErrShape},
		{append(block(t, 0), 0), api.ErrShape},
		{block(t, 0, "x")[:4], api.ErrShape},
		{block(t, 1), api.ErrAhead},
		{block(t, top), api.ErrAhead},
	} {
		out, e := n.Adopt(c.b)
		if e != c.e {
			t.Error(c.b, e)
		}
		tells(t, "refused", out, bft.Out{})
	}
	stands(t, n, 0, 0, "x", "y")
	n.Start()
	b := block(t, 0, "z", "x")
	before := bytes.Clone(b)
	out, e := n.Adopt(b)
	if e != api.OK || !bytes.Equal(b, before) {
		t.Error(e)
	}
	tells(t, "adopted", out, bft.Out{Timers: []api.Timer{timer(1, 7, 0)}, Blocks: [][]byte{b}})
	stands(t, n, 1, 0, "y")
	if !bytes.Equal(n.Log()[0], b) || n.Submit([]byte("z")) != api.ErrSame {
		t.Error(n.Log())
	}
	if out, e := n.Adopt(block(t, 0)); e != api.ErrOld || !same(out, bft.Out{}) {
		t.Error(out, e)
	}
	refuses(t, n, vote(2, 0, 0, 0, none), api.ErrOld)
	own := block(t, 1, "y")
	tells(t, "next", n.Timeout(timer(1, 7, 0)), msgs(proposal(own, 1, 0, 1, -1), vote(2, 1, 0, 1, pool.Name(own))))
}

// TestKnownBlocks: of a value that is decided the block is told that came with the proposal that counted.
func TestKnownBlocks(t *testing.T) {
	n := four(t, 2)
	n.Start()
	b, c := block(t, 0, "x"), block(t, 0, "y")
	for who := range 4 {
		if who != 2 {
			n.Hear(vote(3, 0, 1, who, pool.Name(c)))
		}
	}
	hears(t, n, proposal(b, 0, 0, 0, -1), bft.Out{})
	refuses(t, n, proposal(c, 0, 0, 0, -1), api.ErrFull)
	stands(t, n, 0, 1)
	hears(t, n, proposal(c, 0, 1, 1, -1), bft.Out{Timers: []api.Timer{timer(1, 7, 0)}, Blocks: [][]byte{c}})
	if l := n.Log(); len(l) != 1 || !bytes.Equal(l[0], c) {
		t.Error(l)
	}
}

// TestShift: the height shifts who proposes.
func TestShift(t *testing.T) {
	nodes := []*bft.Node{four(t, 0), four(t, 1), four(t, 2), four(t, 3)}
	for height := range uint64(9) {
		for who, n := range nodes {
			if height > 0 {
				if _, e := n.Adopt(block(t, height-1)); e != api.OK {
					t.Fatal(e)
				}
			}
			out := n.Timeout(timer(height, 7, 0))
			if proposes := len(out.Msgs) > 0; proposes != (who == int(height%4)) {
				t.Error(height, who, out)
			}
		}
	}
}
