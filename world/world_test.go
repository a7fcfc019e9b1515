package world_test

import (
	"bytes"
	"math"
	"slices"
	"testing"

	"sortition/api"
	"sortition/beacon"
	"sortition/group"
	"sortition/journal"
	"sortition/limb"
	"sortition/node"
	"sortition/pool"
	"sortition/sample"
	"sortition/world"
)

const top = math.MaxUint64

var first = api.Digest{5, 31: 6}

func little(t *testing.T) *group.Group {
	t.Helper()
	g, e := group.New(sample.Small())
	if e != api.OK {
		t.Fatal(e)
	}
	return g
}

// config has as many slots as take part, and windows in which each may propose what it was late with.
func config(n int) api.Config {
	return api.Config{T: (n - 1) / 2, Slots: n, Deal: n + 2, Ack: n + 2, Open: n + 2, Reveal: n + 2, Penalty: 2}
}

func made(t *testing.T, n int) *world.World {
	t.Helper()
	return bonded(t, slices.Repeat([]uint64{5}, n)...)
}

func bonded(t *testing.T, bond ...uint64) *world.World {
	t.Helper()
	n := len(bond)
	w, e := world.New(little(t), config(n), slices.Repeat([]uint64{20}, n), bond, 1, first)
	if e != api.OK || w == nil {
		t.Fatal(e)
	}
	return w
}

func does(t *testing.T, w *world.World, o world.Op, want api.Errno) {
	t.Helper()
	if e := w.Do(o); e != want {
		t.Errorf("%v: %v; want %v", o, e, want)
	}
}

func tells(who int, x node.Input) world.Op { return world.Op{Do: 1, Who: who, In: x} }

func starts(who int) world.Op { return tells(who, node.Input{Kind: 1}) }

func hears(who, k int) world.Op { return world.Op{Do: 2, Who: who, K: k} }

func isOver(who, k int) world.Op { return world.Op{Do: 3, Who: who, K: k} }

func takes(who, k int) world.Op { return world.Op{Do: 4, Who: who, K: k} }

func crashes(who, k, part int) world.Op { return world.Op{Do: 5, Who: who, K: k, Part: part} }

func catchesUp(who int) world.Op { return world.Op{Do: 6, Who: who} }

func deals(who int, l ...uint64) world.Op {
	x := node.Input{Kind: 6}
	for _, n := range l {
		x.Coeffs = append(x.Coeffs, limb.Small(n))
	}
	return tells(who, x)
}

func adopts(t *testing.T, who int, height uint64, txs ...string) world.Op {
	t.Helper()
	var l [][]byte
	for _, s := range txs {
		l = append(l, []byte(s))
	}
	b, e := pool.Pack(height, l)
	if e != api.OK {
		t.Fatal(e)
	}
	return tells(who, node.Input{Kind: 5, Tx: b})
}

func sameMsgs(a, b []api.Msg) bool {
	return slices.EqualFunc(a, b, func(x, y api.Msg) bool {
		return x.Height == y.Height && x.Vote == y.Vote && bytes.Equal(x.Block, y.Block)
	})
}

func TestNew(t *testing.T) {
	c := config(2)
	for i, x := range []struct {
		c          api.Config
		free, bond []uint64
		delay      uint64
		e          api.Errno
	}{
		{c, []uint64{5, 5}, []uint64{5, 1}, 1, api.OK},
		{c, []uint64{5, 5}, []uint64{0, 1}, 1, api.OK},
		{c, nil, nil, 1, api.ErrArg},
		{c, nil, []uint64{1}, 101, api.ErrArg},
		{c, []uint64{5, 5}, []uint64{5, 1}, 101, api.ErrLong},
		{c, make([]uint64, 9), make([]uint64, 9), 1, api.ErrLong},
		{c, []uint64{5, 5}, []uint64{5}, 1, api.ErrArg},
		{c, []uint64{top, 5}, []uint64{5, 5}, 1, api.ErrOver},
		{c, []uint64{5, 5}, []uint64{5, 6}, 1, api.ErrFunds},
		{c, []uint64{5, 5}, []uint64{0, 0}, 1, api.ErrZero},
		{api.Config{}, []uint64{5, 5}, []uint64{5, 5}, 1, api.ErrArg},
	} {
		w, e := world.New(little(t), x.c, x.free, x.bond, x.delay, first)
		if e != x.e || (w == nil) != (e != api.OK) {
			t.Error(i, w, e)
		}
		if w == nil {
			continue
		}
		if w.Count() != len(x.free) || len(w.Said()) != 0 {
			t.Error(i, w.Count())
		}
		for who := range x.free {
			n := w.Node(who)
			if n == nil || !n.Up() || len(n.Disk()) != 0 || n.Log().Height() != 0 || !slices.Equal(n.Beacon().Money().Stakes(), x.bond) || n.Beacon().Seed() != first || len(w.Done(who)) != 0 || len(w.Timers(who)) != 0 {
				t.Error(i, who)
			}
			for slot := range n.Holder().Mine() { // its number is Me
				if counts := n.Beacon().Epoch().Counts(); counts[who] == 0 {
					t.Error(i, who, slot)
				}
			}
		}
		for _, who := range []int{-1, len(x.free), math.MinInt, math.MaxInt} {
			if w.Node(who) != nil || len(w.Done(who)) != 0 || len(w.Timers(who)) != 0 {
				t.Error(i, who)
			}
		}
	}
	w := made(t, 3)
	for who := range 3 {
		if mine := w.Node(who).Holder().Mine(); !slices.Equal(mine, []int{who}) {
			t.Error(who, mine)
		}
	}
}

func TestArguments(t *testing.T) {
	w := made(t, 2)
	starts := starts(0).In
	for _, who := range []int{-1, 2, math.MinInt, math.MaxInt} {
		for do := range 8 {
			does(t, w, world.Op{Do: do, Who: who, In: starts}, api.ErrArg)
		}
	}
	for _, do := range []int{-1, 0, 7, 8, math.MinInt, math.MaxInt} {
		does(t, w, world.Op{Do: do, In: starts}, api.ErrArg)
	}
	for do := 2; do <= 5; do++ {
		for _, k := range []int{-1, 0, 1, 99, math.MinInt, math.MaxInt} {
			does(t, w, world.Op{Do: do, K: k, Part: 5}, api.ErrNone)
		}
	}
	if len(w.Said()) != 0 || len(w.Timers(0)) != 0 || len(w.Node(0).Disk()) != 0 {
		t.Error("something happened")
	}
}

// TestHears goes through a height of two, who is told all by number.
func TestHears(t *testing.T) {
	w := made(t, 2)
	does(t, w, starts(0), api.OK)
	does(t, w, starts(1), api.OK)
	if said := w.Said(); len(said) != 2 || said[0].Vote.Kind != 1 || said[1].Vote.Kind != 2 || said[0].Vote.From != 0 {
		t.Fatal(said)
	}
	if l := w.Timers(1); len(w.Timers(0)) != 0 || !slices.Equal(l, []api.Timer{{Kind: 4}}) {
		t.Error(w.Timers(0), l)
	}
	does(t, w, hears(1, 2), api.ErrNone)
	does(t, w, hears(1, 99), api.ErrNone)
	does(t, w, hears(1, 0), api.OK) // its prevote
	does(t, w, hears(1, 0), api.ErrSame)
	does(t, w, hears(0, 0), api.ErrSame) // its own
	does(t, w, hears(1, 1), api.OK)      // its precommit, and a timer
	if said := w.Said(); len(said) != 4 || said[2].Vote.From != 1 || said[2].Vote.Kind != 2 || said[3].Vote.Kind != 3 {
		t.Fatal(said)
	}
	if l := w.Timers(1); !slices.Equal(l, []api.Timer{{Kind: 4}, {Kind: 5}}) {
		t.Error(l)
	}
	does(t, w, hears(0, 2), api.OK)
	does(t, w, hears(0, 3), api.OK)
	does(t, w, hears(1, 4), api.OK)
	for who := range 2 {
		if log := w.Node(who).Log().Log(); len(log) != 1 || !bytes.Equal(log[0], w.Said()[0].Block) {
			t.Error(who, log)
		}
	}
	if l := w.Timers(0); !slices.Equal(l, []api.Timer{{Kind: 5}, {Height: 1, Kind: 7}}) {
		t.Error(l)
	}
	if l := w.Timers(1); !slices.Equal(l, []api.Timer{{Kind: 4}, {Kind: 5}, {Height: 1, Kind: 7}}) {
		t.Error(l)
	}
	does(t, w, hears(0, 4), api.ErrOld)
	does(t, w, isOver(0, 2), api.ErrNone)
	does(t, w, isOver(1, 3), api.ErrNone)
	does(t, w, isOver(0, -1), api.ErrNone)
	before := len(w.Said())
	does(t, w, isOver(0, 0), api.OK) // old: nothing
	does(t, w, isOver(0, 1), api.OK)
	does(t, w, isOver(1, 2), api.OK) // who 1 proposes at height 1
	said := w.Said()[before:]
	if len(said) != 2 || said[0].Height != 1 || said[0].Vote.From != 1 || len(w.Timers(0)) != 3 {
		t.Error(said, w.Timers(0))
	}
	does(t, w, hears(0, before), api.OK)
	does(t, w, isOver(1, 1), api.OK)
	does(t, w, tells(0, node.Input{Kind: 9}), api.ErrArg)
	does(t, w, tells(0, node.Input{Kind: 2}), api.ErrLong)
}

func TestShares(t *testing.T) {
	w := made(t, 3)
	does(t, w, takes(0, 0), api.ErrNone)
	does(t, w, deals(1, 3, 2), api.OK) // 5, 7, 9
	does(t, w, deals(1, 3, 2), api.ErrSame)
	does(t, w, deals(0, 4, 1), api.OK) // 5, 6, 7
	does(t, w, deals(2, 4), api.ErrArg)
	for _, k := range []int{-1, 6, 7} {
		does(t, w, takes(0, k), api.ErrNone)
	}
	does(t, w, takes(0, 0), api.OK)
	does(t, w, takes(0, 0), api.ErrSame)
	does(t, w, takes(0, 1), api.ErrArg) // not its slot
	does(t, w, takes(2, 2), api.OK)
	does(t, w, takes(2, 5), api.OK)
	does(t, w, takes(1, 4), api.OK)
	does(t, w, takes(1, 1), api.ErrSame) // its own
	for who, want := range [][][]api.Piece{
		{{{Slot: 0, Share: limb.Small(5)}}, {{Slot: 0, Share: limb.Small(5)}}, nil},
		{{{Slot: 1, Share: limb.Small(6)}}, {{Slot: 1, Share: limb.Small(7)}}, nil},
		{{{Slot: 2, Share: limb.Small(7)}}, {{Slot: 2, Share: limb.Small(9)}}, nil},
	} {
		for dealer, l := range want {
			if got := w.Node(who).Holder().Held(dealer); !slices.Equal(got, l) {
				t.Error(who, dealer, got)
			}
		}
	}
}

// TestCrashOps: who crashes while it hears begins anew with its disk: it has heard, if all was written; what it would have told is not told.
func TestCrashOps(t *testing.T) {
	begin := func() *world.World {
		w := made(t, 2)
		does(t, w, starts(0), api.OK)
		does(t, w, starts(1), api.OK)
		return w
	}
	for _, part := range []int{math.MinInt, -1, 0, 1, 40, 1000, math.MaxInt} {
		w := begin()
		was, said := w.Node(1), len(w.Said())
		does(t, w, crashes(1, 2, part), api.ErrNone)
		does(t, w, crashes(1, -1, part), api.ErrNone)
		if w.Node(1) != was || !was.Up() {
			t.Error("it crashed", part)
		}
		does(t, w, crashes(1, 0, part), api.OK)
		n := w.Node(1)
		l, good := journal.Replay(n.Disk())
		if n == was || was.Up() || !n.Up() || len(w.Said()) != said || len(w.Timers(1)) != 1 || good != len(n.Disk()) {
			t.Error(part, len(w.Said()))
		}
		if part < 1000 {
			if len(l) != 1 {
				t.Error(part, len(l))
			}
			does(t, w, hears(1, 0), api.OK)
			if len(w.Said()) != said+1 {
				t.Error(part, len(w.Said()))
			}
		} else {
			if len(l) != 2 {
				t.Error(part, len(l))
			}
			does(t, w, hears(1, 0), api.ErrSame) // it has voted, and is silent
		}
		does(t, w, hears(1, 1), api.OK)
	}
	w := begin() // a message that does not fit on the disk: it stays up
	for i := range 5 {
		does(t, w, tells(0, node.Input{Kind: 2, Tx: bytes.Repeat([]byte{byte(i)}, 1000)}), api.OK)
	}
	for who := range 2 {
		does(t, w, adopts(t, who, 0), api.OK)
		does(t, w, adopts(t, who, 1), api.OK)
	}
	before := len(w.Said())
	does(t, w, tells(0, node.Input{Kind: 4, Timer: api.Timer{Height: 2, Kind: 7}}), api.OK)
	was := w.Node(1)
	if len(w.Said()[before].Block) < 5000 {
		t.Fatal(w.Said()[before])
	}
	does(t, w, crashes(1, before, 5), api.ErrArg)
	does(t, w, hears(1, before), api.ErrArg)
	if w.Node(1) != was || !was.Up() {
		t.Error("down")
	}
}

// TestCatchesUp: what more than a third claims is adopted, four blocks at once.
func TestCatchesUp(t *testing.T) {
	w := made(t, 4)
	does(t, w, catchesUp(3), api.OK)
	for who := range 2 {
		for height := range uint64(6) {
			does(t, w, adopts(t, who, height, "x"+string(rune('a'+height))), api.OK)
		}
	}
	does(t, w, adopts(t, 2, 0, "other"), api.OK)
	does(t, w, catchesUp(3), api.OK)
	if n := w.Node(3); n.Log().Height() != 4 || n.Beacon().At() != 4 {
		t.Error(n.Log().Height())
	}
	if l := w.Timers(3); len(l) != 4 || l[3] != (api.Timer{Height: 4, Kind: 7}) {
		t.Error(l)
	}
	does(t, w, catchesUp(3), api.OK)
	does(t, w, catchesUp(3), api.OK)
	if !slices.EqualFunc(w.Node(3).Log().Log(), w.Node(0).Log().Log(), bytes.Equal) || w.Node(3).Log().Height() != 6 {
		t.Error(w.Node(3).Log().Height())
	}
	does(t, w, catchesUp(2), api.OK) // its own first block is another one
	if log := w.Node(2).Log().Log(); len(log) != 5 || bytes.Equal(log[0], w.Node(0).Log().Log()[0]) || !bytes.Equal(log[1], w.Node(0).Log().Log()[1]) {
		t.Error(len(log))
	}
	does(t, w, catchesUp(0), api.OK)

	w = made(t, 4) // one of four is not more than a third; it itself does not count
	does(t, w, adopts(t, 0, 0, "a"), api.OK)
	does(t, w, adopts(t, 1, 0, "b"), api.OK)
	does(t, w, adopts(t, 1, 1, "c"), api.OK)
	for who := range 4 {
		height := w.Node(who).Log().Height()
		does(t, w, catchesUp(who), api.OK)
		if w.Node(who).Log().Height() != height {
			t.Error(who)
		}
	}
	w = bonded(t, 1, 3, 1, 0) // the stakes that were bonded at first count
	does(t, w, adopts(t, 1, 0, "b"), api.OK)
	does(t, w, adopts(t, 0, 0, "a"), api.OK)
	does(t, w, adopts(t, 3, 0, "a"), api.OK)
	does(t, w, catchesUp(2), api.OK)
	if log := w.Node(2).Log().Log(); len(log) != 1 || !bytes.Equal(log[0], w.Node(1).Log().Log()[0]) {
		t.Error(log)
	}
}

// TestCatchUpRefused: a block that does not fit into a record is refused, and ends it.
func TestCatchUpRefused(t *testing.T) {
	w := bonded(t, 5, 1)
	for i := range 5 {
		does(t, w, tells(0, node.Input{Kind: 2, Tx: bytes.Repeat([]byte{byte(i + 1)}, 900)}), api.OK)
	}
	does(t, w, starts(0), api.OK)
	does(t, w, isOver(0, 1), api.OK)
	does(t, w, isOver(0, len(w.Timers(0))-1), api.OK) // who 1 proposes at height 1: a timer
	for height := uint64(1); w.Node(0).Log().Height() < 3; height = w.Node(0).Log().Height() {
		for _, kind := range []int{4, 5, 6} {
			for r := range 2 {
				does(t, w, tells(0, node.Input{Kind: 4, Timer: api.Timer{Height: height, Kind: kind, Round: r}}), api.OK)
			}
		}
		does(t, w, tells(0, node.Input{Kind: 4, Timer: api.Timer{Height: height + 1, Kind: 7}}), api.OK)
	}
	log := w.Node(0).Log().Log()
	if len(log[1]) < 4500 {
		t.Fatal(len(log[1]))
	}
	does(t, w, catchesUp(1), api.ErrArg)
	if w.Node(1).Log().Height() != 1 || !bytes.Equal(w.Node(1).Log().Log()[0], log[0]) {
		t.Error(w.Node(1).Log().Height())
	}
}

// TestDeterminism: the same Ops come to the same.
func TestDeterminism(t *testing.T) {
	x, y := made(t, 4), made(t, 4)
	run(t, x, 2)
	run(t, y, 2)
	if !sameMsgs(x.Said(), y.Said()) || len(x.Said()) == 0 {
		t.Error(len(x.Said()), len(y.Said()))
	}
	for who := range 4 {
		if !slices.Equal(x.Timers(who), y.Timers(who)) || !slices.EqualFunc(x.Done(who), y.Done(who), sameDone) || !bytes.Equal(x.Node(who).Disk(), y.Node(who).Disk()) {
			t.Error(who)
		}
	}
}

func sameDone(a, b beacon.Done) bool {
	return a.Number == b.Number && a.Seed == b.Seed && slices.Equal(a.Qualified, b.Qualified) && slices.Equal(a.Faults, b.Faults) && slices.Equal(a.Stakes, b.Stakes)
}
