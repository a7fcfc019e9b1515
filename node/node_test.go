package node_test

import (
	"bytes"
	"math"
	"math/rand"
	"slices"
	"testing"

	"sortition/api"
	"sortition/beacon"
	"sortition/bft"
	"sortition/draw"
	"sortition/epoch"
	"sortition/group"
	"sortition/journal"
	"sortition/limb"
	"sortition/node"
	"sortition/pool"
	"sortition/sample"
)

var first = api.Digest{5, 31: 6}

// alone is one alone, with one slot; its windows let what is submitted at one height be decided at the next but one.
func alone(t *testing.T) node.Setup {
	t.Helper()
	g, e := group.New(sample.Small())
	if e != api.OK {
		t.Fatal(e)
	}
	c := api.Config{T: 0, Slots: 1, Deal: 2, Ack: 2, Open: 2, Reveal: 2, Penalty: 2}
	return node.Setup{G: g, C: c, Free: []uint64{9}, Bond: []uint64{5}, Delay: 1, Seed: first}
}

// many are some with one slot each, as who me.
func many(t *testing.T, n, me int) node.Setup {
	s := alone(t)
	s.C.Slots, s.Me = n, me
	s.Free, s.Bond = slices.Repeat([]uint64{9}, n), slices.Repeat([]uint64{5}, n)
	return s
}

func made(t *testing.T, s node.Setup, disk []byte) *node.Node {
	t.Helper()
	n, e := node.New(s, disk)
	if e != api.OK || n == nil {
		t.Fatal(e)
	}
	return n
}

func does(t *testing.T, n *node.Node, x node.Input) node.Out {
	t.Helper()
	out, e := n.Do(x)
	if e != api.OK {
		t.Error(x, e)
	}
	return out
}

func refuses(t *testing.T, n *node.Node, x node.Input, want api.Errno) {
	t.Helper()
	out, e := n.Do(x)
	if e != want || !sameOut(out, node.Out{}) {
		t.Error(x, out, e, "want", want)
	}
}

func sameLog(a, b bft.Out) bool {
	return slices.EqualFunc(a.Msgs, b.Msgs, func(x, y api.Msg) bool {
		return x.Height == y.Height && x.Vote == y.Vote && bytes.Equal(x.Block, y.Block)
	}) && slices.Equal(a.Timers, b.Timers) && slices.EqualFunc(a.Blocks, b.Blocks, bytes.Equal)
}

func sameOut(a, b node.Out) bool {
	return sameLog(a.Out, b.Out) && slices.Equal(a.Shares, b.Shares)
}

func sameDone(a, b beacon.Done) bool {
	return a.Number == b.Number && a.Seed == b.Seed && slices.Equal(a.Qualified, b.Qualified) && slices.Equal(a.Faults, b.Faults) && slices.Equal(a.Stakes, b.Stakes)
}

// same tells whether two nodes are alike in all that may be asked.
func same(t *testing.T, what string, a, b *node.Node) {
	t.Helper()
	x, y := a.Log(), b.Log()
	if x.Height() != y.Height() || x.Round() != y.Round() || !slices.EqualFunc(x.Log(), y.Log(), bytes.Equal) || !slices.EqualFunc(x.Waits(), y.Waits(), bytes.Equal) {
		t.Error(what, "log", x.Height(), y.Height(), x.Round(), y.Round())
	}
	p, q := a.Beacon(), b.Beacon()
	if p.Number() != q.Number() || p.At() != q.At() || p.Seed() != q.Seed() || !slices.EqualFunc(p.Done(), q.Done(), sameDone) || !slices.Equal(p.Money().Stakes(), q.Money().Stakes()) {
		t.Error(what, "beacon", p.Number(), q.Number(), p.At(), q.At())
	}
	h, k := a.Holder(), b.Holder()
	if (h == nil) != (k == nil) || (p.Epoch() == nil) != (q.Epoch() == nil) || (h == nil) != (p.Epoch() == nil) {
		t.Error(what, "holder", h, k)
		return
	}
	if h == nil {
		return
	}
	for dealer := range 5 {
		if !slices.Equal(h.Held(dealer), k.Held(dealer)) || !slices.Equal(h.Mine(), k.Mine()) {
			t.Error(what, "held", dealer, h.Held(dealer), k.Held(dealer))
		}
	}
	for at := range 9 {
		if !slices.EqualFunc(h.Duty(p.Epoch(), at), k.Duty(q.Epoch(), at), func(x, y api.Tx) bool {
			return x.Kind == y.Kind && x.From == y.From && x.Dealer == y.Dealer && x.Slot == y.Slot && x.Value == y.Value
		}) {
			t.Error(what, "duty", at)
		}
	}
}

func start() node.Input { return node.Input{Kind: 1} }

func isOver(height uint64, kind, r int) node.Input {
	return node.Input{Kind: 4, Timer: api.Timer{Height: height, Kind: kind, Round: r}}
}

func deals(l ...uint64) node.Input {
	x := node.Input{Kind: 6}
	for _, n := range l {
		x.Coeffs = append(x.Coeffs, limb.Small(n))
	}
	return x
}

func takes(dealer, slot int, n uint64) node.Input {
	return node.Input{Kind: 7, Dealer: dealer, Piece: api.Piece{Slot: slot, Share: limb.Small(n)}}
}

func adopts(t *testing.T, height uint64, txs ...[]byte) node.Input {
	t.Helper()
	b, e := pool.Pack(height, txs)
	if e != api.OK {
		t.Fatal(e)
	}
	return node.Input{Kind: 5, Tx: b}
}

func encoded(t *testing.T, x api.Tx) []byte {
	t.Helper()
	b, e := epoch.Encode(x)
	if e != api.OK {
		t.Fatal(e)
	}
	return b
}

func TestNew(t *testing.T) {
	with := func(f func(s *node.Setup)) node.Setup {
		s := many(t, 2, 1)
		f(&s)
		return s
	}
	for i, c := range []struct {
		s node.Setup
		e api.Errno
	}{
		{with(func(s *node.Setup) {}), api.OK},
		{with(func(s *node.Setup) { s.Free = nil }), api.ErrLong},
		{with(func(s *node.Setup) { s.Delay = 101 }), api.ErrLong},
		{with(func(s *node.Setup) { s.Free = []uint64{top, top} }), api.ErrOver},
		{with(func(s *node.Setup) { s.Bond = nil }), api.ErrArg},
		{with(func(s *node.Setup) { s.Bond = []uint64{10, 0} }), api.ErrFunds},
		{with(func(s *node.Setup) { s.Bond = []uint64{0, 0} }), api.ErrZero},
		{with(func(s *node.Setup) { s.C.T = 2 }), api.ErrArg},
		{with(func(s *node.Setup) { s.Me = 2 }), api.ErrArg},
		{with(func(s *node.Setup) { s.Me = -1 }), api.ErrArg},
		{with(func(s *node.Setup) { s.Me = math.MaxInt }), api.ErrArg},
		{with(func(s *node.Setup) { s.Me, s.Bond = 5, []uint64{0, 0} }), api.ErrZero}, // the beacon's ahead of the log's
	} {
		n, e := node.New(c.s, nil)
		if e != c.e || (n == nil) != (e != api.OK) {
			t.Error(i, n, e)
		}
	}
	n := made(t, many(t, 2, 1), nil)
	if !n.Up() || len(n.Disk()) != 0 || n.Log().Height() != 0 || n.Beacon().Number() != 0 || n.Beacon().Seed() != first || !slices.Equal(n.Holder().Mine(), []int{1}) {
		t.Error(n.Up(), n.Disk())
	}
	if bonded := n.Beacon().Money().Stakes(); !slices.Equal(bonded, []uint64{5, 5}) {
		t.Error(bonded)
	}
}

// TestKinds does each kind: as the log and the holder would.
func TestKinds(t *testing.T) {
	n := made(t, many(t, 2, 1), nil)
	log, _ := bft.New([]uint64{5, 5}, 1)
	if out := does(t, n, start()); !sameOut(out, node.Out{Out: log.Start()}) || len(out.Timers) != 1 {
		t.Error(out)
	}
	does(t, n, node.Input{Kind: 2, Tx: []byte("a")})
	refuses(t, n, node.Input{Kind: 2, Tx: []byte("a")}, api.ErrSame)
	refuses(t, n, node.Input{Kind: 2}, api.ErrLong)
	refuses(t, n, node.Input{Kind: 2, Tx: make([]byte, 1001)}, api.ErrLong)
	refuses(t, n, node.Input{Kind: 2, Tx: make([]byte, 3001)}, api.ErrArg)
	log.Submit([]byte("a"))
	b, _ := pool.Pack(0, [][]byte{[]byte("x")})
	m := api.Msg{Vote: api.Vote{Kind: 1, Value: pool.Name(b), Valid: -1}, Block: b}
	want, e := log.Hear(m)
	if out := does(t, n, node.Input{Kind: 3, Msg: m}); !sameLog(out.Out, want) || len(out.Msgs) != 1 || e != api.OK {
		t.Error(out, want)
	}
	refuses(t, n, node.Input{Kind: 3, Msg: m}, api.ErrSame)
	m.Height = 1
	refuses(t, n, node.Input{Kind: 3, Msg: m}, api.ErrAhead)
	m.Height, m.Block = 0, nil
	refuses(t, n, node.Input{Kind: 3, Msg: m}, api.ErrShape)
	m.Vote.Round = 256
	refuses(t, n, node.Input{Kind: 3, Msg: m}, api.ErrArg)
	if out := does(t, n, isOver(0, 6, 0)); !sameLog(out.Out, log.Timeout(api.Timer{Kind: 6})) || len(out.Msgs) == 0 {
		t.Error(out)
	}
	if out := does(t, n, isOver(9, 6, 0)); !sameOut(out, node.Out{}) {
		t.Error(out)
	}
	refuses(t, n, adopts(t, 1), api.ErrAhead)
	refuses(t, n, node.Input{Kind: 5, Tx: []byte{9}}, api.ErrShape)
	want, _ = log.Adopt(adopts(t, 0, []byte("x")).Tx)
	if out := does(t, n, adopts(t, 0, []byte("x"))); !sameLog(out.Out, want) || len(out.Blocks) != 1 {
		t.Error(out)
	}
	refuses(t, n, adopts(t, 0), api.ErrOld)
	for _, kind := range []int{0, 8, -1, math.MaxInt} {
		refuses(t, n, node.Input{Kind: kind}, api.ErrArg)
	}
	if n.Log().Height() != 1 || n.Beacon().At() != 1 {
		t.Error(n.Log().Height(), n.Beacon().At())
	}
}

func TestHolder(t *testing.T) {
	n := made(t, many(t, 2, 1), nil)
	does(t, n, takes(0, 1, 4))
	refuses(t, n, takes(0, 1, 4), api.ErrSame)
	refuses(t, n, takes(0, 1, 5), api.ErrFull)
	refuses(t, n, takes(0, 0, 4), api.ErrArg)
	refuses(t, n, takes(256, 1, 4), api.ErrArg)
	refuses(t, n, deals(3, 2), api.ErrArg)
	out := does(t, n, deals(3))
	if !sameOut(out, node.Out{Shares: []api.Nat{{3}, {3}}}) {
		t.Error(out)
	}
	refuses(t, n, deals(3), api.ErrSame)
	tx := encoded(t, api.Tx{Kind: 1, From: 1, Commits: []api.Nat{{18}}})
	if waits := n.Log().Waits(); len(waits) != 1 || !bytes.Equal(waits[0], tx) {
		t.Error(waits)
	}
	if l := n.Holder().Held(0); !slices.Equal(l, []api.Piece{{Slot: 1, Share: limb.Small(4)}}) {
		t.Error(l)
	}
	n = made(t, many(t, 2, 1), nil) // a pool that is full is no error of a Deal's
	for i := range 30 {
		does(t, n, node.Input{Kind: 2, Tx: []byte{byte(i)}})
	}
	if out := does(t, n, deals(3)); len(out.Shares) != 2 || len(n.Log().Waits()) != 30 {
		t.Error(out)
	}
}

// TestWritten: all that can be written is, also where it is refused then; nothing else is.
func TestWritten(t *testing.T) {
	n := made(t, many(t, 2, 1), nil)
	var records [][]byte
	for i, x := range []node.Input{start(), deals(3, 2), deals(3), {Kind: 2, Tx: []byte("a")}, {Kind: 2, Tx: []byte("a")}, {Kind: 9}, isOver(0, 4, 0), {Kind: 2, Tx: make([]byte, 3001)}, takes(0, 1, 4), takes(0, 0, 4), adopts(t, 5), {Kind: 5, Tx: make([]byte, 3000)}} {
		n.Do(x)
		if b, e := node.Encode(x); e == api.OK {
			records = append(records, b)
		}
		got, good := journal.Replay(n.Disk())
		if !slices.EqualFunc(got, records, bytes.Equal) || good != len(n.Disk()) {
			t.Error(i, len(got), len(records))
		}
	}
	if len(records) != 10 {
		t.Error(len(records))
	}
	same(t, "again", made(t, many(t, 2, 1), n.Disk()), n)
}

// TestEpoch goes through epochs of one alone: each block that is told goes through the beacon, and duties are submitted.
// Behind the first epoch an Ack has the bytes of one that was done, so that it never waits again, and the slot is opened.
func TestEpoch(t *testing.T) {
	n := made(t, alone(t), nil)
	seed := first
	for number := range uint64(3) {
		before := n.Holder()
		if out := does(t, n, deals(3+number)); len(out.Shares) != 1 {
			t.Error(out)
		}
		secret := limb.Small(3 + number)
		want := map[int]api.Tx{
			1: {Kind: 1, Commits: []api.Nat{alone(t).G.Base(secret)}},
			3: {Kind: 2},
			7: {Kind: 4, Value: secret},
		}
		if number > 0 {
			delete(want, 3)
			want[5] = api.Tx{Kind: 3, Value: secret}
		}
		for at := range 8 {
			if n.Beacon().At() != at || n.Beacon().Number() != number || n.Holder() != before {
				t.Error(number, at, n.Beacon().At())
			}
			decides(t, n, want, at)
		}
		seed = draw.Seed(number, seed, secret, []int{0})
		done := n.Beacon().Done()
		if len(done) != int(number)+1 || !sameDone(done[number], beacon.Done{Number: number, Seed: seed, Qualified: []int{0}, Faults: []int{0}, Stakes: []uint64{5}}) {
			t.Error(number, done)
		}
		if n.Holder() == before || len(n.Holder().Held(0)) != 0 {
			t.Error("no new holder", number)
		}
	}
	same(t, "again", made(t, alone(t), n.Disk()), n)
}

// decides lets one alone decide a block, which has what is wanted at a height of its epoch.
func decides(t *testing.T, n *node.Node, want map[int]api.Tx, at int) {
	t.Helper()
	height := n.Log().Height()
	x := isOver(height, 7, 0)
	if height == 0 {
		x = start()
	}
	var txs [][]byte
	if tx, ok := want[at]; ok {
		txs = append(txs, encoded(t, tx))
	}
	out := does(t, n, x)
	b, _ := pool.Pack(height, txs)
	if len(out.Msgs) != 3 || len(out.Timers) != 2 || !slices.EqualFunc(out.Blocks, [][]byte{b}, bytes.Equal) {
		t.Error(height, at, out)
	}
}

// TestDutyBehindBlocks: duties are submitted behind each block that is told, and behind nothing else.
func TestDutyBehindBlocks(t *testing.T) {
	s := many(t, 2, 1)
	n := made(t, s, nil)
	does(t, n, takes(0, 1, 3))
	dealt := encoded(t, api.Tx{Kind: 1, From: 0, Commits: []api.Nat{{18}}})
	does(t, n, adopts(t, 0, dealt))
	does(t, n, start())
	if waits := n.Log().Waits(); len(waits) != 0 {
		t.Error(waits)
	}
	does(t, n, adopts(t, 1))
	acked := encoded(t, api.Tx{Kind: 2, From: 1, Dealer: 0})
	if waits := n.Log().Waits(); !slices.EqualFunc(waits, [][]byte{acked}, bytes.Equal) {
		t.Error(waits)
	}
	does(t, n, adopts(t, 2, acked))
	if waits := n.Log().Waits(); len(waits) != 0 { // it is covered, and was decided
		t.Error(waits)
	}
	n = made(t, s, nil) // what is taken behind the block is told behind the next one
	does(t, n, adopts(t, 0, dealt))
	does(t, n, adopts(t, 1))
	does(t, n, takes(0, 1, 3))
	does(t, n, isOver(2, 7, 0))
	if waits := n.Log().Waits(); len(waits) != 0 {
		t.Error(waits)
	}
	does(t, n, adopts(t, 2))
	if waits := n.Log().Waits(); !slices.EqualFunc(waits, [][]byte{acked}, bytes.Equal) {
		t.Error(waits)
	}
}

// TestEnded: once the beacon has ended there is no holder, till an epoch begins.
func TestEnded(t *testing.T) {
	n := made(t, alone(t), nil)
	unbond := encoded(t, api.Tx{Kind: 7, Value: limb.Small(5)})
	does(t, n, adopts(t, 0, unbond))
	for height := uint64(1); height < 8; height++ {
		if n.Holder() == nil {
			t.Error(height)
		}
		does(t, n, adopts(t, height))
	}
	for height := uint64(8); height < 10; height++ {
		if n.Holder() != nil || n.Beacon().Epoch() != nil || n.Beacon().Number() != 1 {
			t.Error("not ended", height)
		}
		refuses(t, n, deals(3), api.ErrPhase)
		refuses(t, n, deals(3, 4, 5), api.ErrPhase)
		refuses(t, n, takes(0, 0, 3), api.ErrPhase)
		refuses(t, n, takes(300, 0, 3), api.ErrArg)
		does(t, n, adopts(t, height))
	}
	same(t, "again", made(t, alone(t), n.Disk()), n)
	does(t, n, adopts(t, 10, encoded(t, api.Tx{Kind: 6, Value: limb.Small(2)})))
	if n.Holder() == nil || !slices.Equal(n.Holder().Mine(), []int{0}) || n.Beacon().Number() != 1 {
		t.Error("it has not begun")
	}
	does(t, n, deals(3))
	same(t, "again", made(t, alone(t), n.Disk()), n)
}

// TestStakesForEver: the log's stakes are those that were bonded at first.
func TestStakesForEver(t *testing.T) {
	s := many(t, 2, 0)
	s.Bond = []uint64{5, 1}
	n := made(t, s, nil)
	out := does(t, n, start())
	if len(out.Blocks) != 1 { // who has five of six decides alone
		t.Fatal(out)
	}
	unbond := encoded(t, api.Tx{Kind: 7, From: 0, Value: limb.Small(5)})
	does(t, n, adopts(t, 1, unbond))
	for height := uint64(2); height < 8; height++ {
		does(t, n, adopts(t, height))
	}
	if !slices.Equal(n.Beacon().Money().Stakes(), []uint64{0, 1}) || !slices.Equal(n.Holder().Mine(), []int{}) {
		t.Error(n.Beacon().Money().Stakes(), n.Holder().Mine())
	}
	if out := does(t, n, isOver(8, 7, 0)); len(out.Blocks) != 1 { // it does so still
		t.Error(out)
	}
}

func TestCrashes(t *testing.T) {
	n := made(t, alone(t), nil)
	out := does(t, n, start())
	x := node.Input{Kind: 4, Timer: out.Timers[len(out.Timers)-1]}
	b, _ := node.Encode(x)
	frame, _ := journal.Frame(b)
	disk := n.Disk()
	would := made(t, alone(t), disk)
	does(t, would, x)
	for _, part := range []int{math.MinInt, -1, 0, 3, len(frame) - 1, len(frame), 1000, math.MaxInt} {
		n := made(t, alone(t), disk)
		if e := n.Crash(node.Input{Kind: 9}, part); e != api.ErrArg || !n.Up() || !bytes.Equal(n.Disk(), disk) {
			t.Error(part, e)
		}
		if e := n.Crash(x, part); e != api.OK || n.Up() {
			t.Error(part, e)
		}
		if want := slices.Concat(disk, frame[:min(max(part, 0), len(frame))]); !bytes.Equal(n.Disk(), want) {
			t.Error(part, len(n.Disk()), len(want))
		}
		same(t, "down", n, made(t, alone(t), disk)) // nothing was done
		refuses(t, n, start(), api.ErrPhase)
		refuses(t, n, node.Input{Kind: 9}, api.ErrPhase)
		if n.Crash(x, 0) != api.ErrPhase || n.Crash(node.Input{Kind: 9}, 0) != api.ErrPhase || n.Up() {
			t.Error("down", part)
		}
		again := made(t, alone(t), n.Disk())
		if !again.Up() {
			t.Error("not up")
		}
		if part >= len(frame) {
			same(t, "as it would have been", again, would)
		} else {
			same(t, "as it was", again, made(t, alone(t), disk))
			if !bytes.Equal(again.Disk(), disk) {
				t.Error("what is torn stays", part)
			}
			does(t, again, x)
			same(t, "once more", again, would)
		}
		same(t, "and again", made(t, alone(t), again.Disk()), again)
	}
}

// TestDisks: what cannot be read is no Input, and hinders nothing behind it.
func TestDisks(t *testing.T) {
	j := journal.Open(nil)
	b, _ := node.Encode(start())
	j.Append([]byte{9, 9})
	j.Append(nil)
	j.Append(b)
	n := made(t, alone(t), append(j.Disk(), 1, 2, 3))
	one := made(t, alone(t), nil)
	does(t, one, start())
	same(t, "start", n, one)
	if !bytes.Equal(n.Disk(), j.Disk()) {
		t.Error(n.Disk())
	}
}

// TestFollows: who begins anew with the disk of one that crashed is what that was, or would have been; of what is heard twice, or wrongly, too.
func TestFollows(t *testing.T) {
	r := rand.New(rand.NewSource(35))
	decided := 0
	for range 20 {
		nodes := make([]*node.Node, 4)
		setups := make([]node.Setup, 4)
		for who := range nodes {
			setups[who] = many(t, 4, who)
			nodes[who] = made(t, setups[who], nil)
		}
		var said []api.Msg
		timers, next := make([][]api.Timer, 4), make([]int, 4)
		for range 400 {
			who := r.Intn(4)
			n := nodes[who]
			x := chance(r, who, said, timers[who], &next[who])
			if log := nodes[r.Intn(4)].Log().Log(); len(log) > int(n.Log().Height()) && r.Intn(4) == 0 {
				x = node.Input{Kind: 5, Tx: log[n.Log().Height()]}
			}
			if r.Intn(8) == 0 {
				b, e := node.Encode(x)
				part := r.Intn(len(b) + 20)
				was := made(t, setups[who], n.Disk())
				if ce := n.Crash(x, part); ce != e {
					t.Fatal(ce, e)
				}
				if e != api.OK {
					continue
				}
				if part >= len(b)+8 {
					was.Do(x)
				}
				nodes[who] = made(t, setups[who], n.Disk())
				same(t, "crashed", nodes[who], was)
				continue
			}
			out, _ := n.Do(x)
			said = append(said, out.Msgs...)
			timers[who] = append(timers[who], out.Timers...)
		}
		for who, n := range nodes {
			same(t, "at the end", made(t, setups[who], n.Disk()), n)
			decided += int(n.Log().Height())
		}
	}
	if decided < 100 {
		t.Error("seldom decided", decided)
	}
}

// chance is an Input by chance, mostly what was said, in order.
func chance(r *rand.Rand, who int, said []api.Msg, timers []api.Timer, next *int) node.Input {
	switch k := r.Intn(20); {
	case k == 0 || len(said) == 0:
		return start()
	case k == 1:
		return node.Input{Kind: 2, Tx: []byte{byte(r.Intn(50))}}
	case k == 2:
		return deals(uint64(3 + who))
	case k == 3:
		dealer := r.Intn(4)
		return takes(dealer, who, uint64(3+dealer))
	case k < 6 && len(timers) > 0:
		return node.Input{Kind: 4, Timer: timers[max(0, len(timers)-1-r.Intn(3))]}
	}
	k := r.Intn(len(said))
	if *next < len(said) {
		k = *next
		*next++
	}
	return node.Input{Kind: 3, Msg: said[k]}
}
