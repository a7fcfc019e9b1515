package world_test

import (
	"bytes"
	"math/rand"
	"slices"
	"testing"

	"sortition/api"
	"sortition/beacon"
	"sortition/draw"
	"sortition/epoch"
	"sortition/group"
	"sortition/limb"
	"sortition/modq"
	"sortition/node"
	"sortition/pool"
	"sortition/sample"
	"sortition/share"
	"sortition/world"
)

// player lets all of a world happen: what is said is heard by all, and then timers are over.
type player struct {
	t      *testing.T
	w      *world.World
	coeffs func(who int, number uint64) []api.Nat // what each deals; none: nothing
	hidden func(from, to int) bool                // whose shares do not come to whom
	heard  []int                                  // how many messages each heard
	timers []int                                  // how many timers each heard of
	dealt  []int                                  // how many epochs each dealt in
	shares int                                    // how many were told
}

func newPlayer(t *testing.T, w *world.World) *player {
	n := w.Count()
	return &player{t: t, w: w, heard: make([]int, n), timers: make([]int, n), dealt: make([]int, n),
		coeffs: func(who int, number uint64) []api.Nat {
			l := []api.Nat{limb.Small(uint64(who) + 2 + number)}
			for range (n - 1) / 2 {
				l = append(l, limb.Small(number+3))
			}
			return l
		},
		hidden: func(from, to int) bool { return false },
	}
}

// deal lets all deal who have not yet dealt in their epoch, and take their shares.
func (p *player) deal() {
	for who := range p.w.Count() {
		n := p.w.Node(who)
		if n.Beacon().Epoch() == nil || int(n.Beacon().Number()) < p.dealt[who] {
			continue
		}
		p.dealt[who]++
		l := p.coeffs(who, n.Beacon().Number())
		if l == nil {
			continue
		}
		does(p.t, p.w, tells(who, node.Input{Kind: 6, Coeffs: l}), api.OK)
		slots := 0
		for _, count := range n.Beacon().Epoch().Counts() {
			slots += count
		}
		for to := range p.w.Count() {
			for _, slot := range p.w.Node(to).Holder().Mine() {
				if to != who && !p.hidden(who, to) {
					does(p.t, p.w, takes(to, p.shares+slot), api.OK)
				}
			}
		}
		p.shares += slots
	}
}

// hear lets all hear what was said; whether there was something.
func (p *player) hear() bool {
	something := false
	for who := range p.w.Count() {
		for ; p.heard[who] < len(p.w.Said()); p.heard[who]++ {
			if p.w.Said()[p.heard[who]].Vote.From != who {
				p.w.Do(hears(who, p.heard[who]))
				something = true
			}
		}
	}
	return something
}

// tick lets timers be over of which nobody heard.
func (p *player) tick() {
	for who := range p.w.Count() {
		all := len(p.w.Timers(who))
		for ; p.timers[who] < all; p.timers[who]++ {
			if x := p.w.Timers(who)[p.timers[who]]; x.Kind == 7 {
				does(p.t, p.w, isOver(who, p.timers[who]), api.OK)
			}
		}
	}
}

// play lets so many epochs be done.
func (p *player) play(epochs int) {
	p.t.Helper()
	p.deal()
	for who := range p.w.Count() {
		does(p.t, p.w, starts(who), api.OK)
	}
	for range 5000 {
		for p.hear() {
		}
		if len(p.w.Done(0)) >= epochs {
			return
		}
		p.deal()
		p.tick()
	}
	p.t.Fatal("it comes to no end")
}

// run lets all deal and do their duty.
func run(t *testing.T, w *world.World, epochs int) *player {
	t.Helper()
	p := newPlayer(t, w)
	p.play(epochs)
	return p
}

// agree tells whether one's log is the beginning of the other one's, and so the epochs that were done.
func agree(t *testing.T, a, b *node.Node) {
	t.Helper()
	x, y := a.Log().Log(), b.Log().Log()
	least := min(len(x), len(y))
	if !slices.EqualFunc(x[:least], y[:least], bytes.Equal) {
		t.Fatal("two logs")
	}
	p, q := a.Beacon().Done(), b.Beacon().Done()
	least = min(len(p), len(q))
	if !slices.EqualFunc(p[:least], q[:least], sameDone) {
		t.Fatal("two histories", p, q)
	}
	if len(x) == len(y) {
		m, k := a.Beacon(), b.Beacon()
		if m.Seed() != k.Seed() || m.Number() != k.Number() || m.At() != k.At() || !slices.Equal(m.Money().Stakes(), k.Money().Stakes()) || m.Money().Treasury() != k.Money().Treasury() {
			t.Fatal("two ledgers")
		}
		order, e := m.Leaders(20)
		other, ee := k.Leaders(20)
		if !slices.Equal(order, other) || e != ee {
			t.Fatal("two orders of who leads")
		}
	}
	if a.Beacon().Money().Total() != b.Beacon().Money().Total() {
		t.Fatal("money was made, or lost")
	}
}

// TestAllFinish: where all is heard, and all do their duty, all finish the epoch, with one seed, and nobody is at fault.
func TestAllFinish(t *testing.T) {
	for n := 1; n <= 5; n++ {
		w := made(t, n)
		p := run(t, w, 3)
		seed := first
		for number, d := range w.Done(0) {
			who, sum := []int{}, api.Nat{}
			for k := range n {
				who = append(who, k)
				sum = modq.Sum(little(t).Q(), sum, p.coeffs(k, uint64(number))[0])
			}
			seed = draw.Seed(uint64(number), seed, sum, who)
			if !sameDone(d, beacon.Done{Number: uint64(number), Seed: seed, Qualified: who, Faults: make([]int, n), Stakes: slices.Repeat([]uint64{5}, n)}) {
				t.Error(n, number, d)
			}
		}
		for who := range n {
			if len(w.Done(who)) != 3 || w.Node(who).Beacon().Money().Total() != uint64(20*n) {
				t.Error(n, who, w.Done(who))
			}
			agree(t, w.Node(who), w.Node(0))
		}
	}
}

// storm is a world in which all happens by chance; who 3 of four does not follow the rules.
type storm struct {
	r    *rand.Rand
	w    *world.World
	said []api.Msg
	next []int // of the messages the one that each hears next, if all goes well
}

// late is one of the last of some, or any.
func (s *storm) late(n int) int {
	if s.r.Intn(5) == 0 {
		return s.r.Intn(n + 1)
	}
	return max(0, n-1-s.r.Intn(3))
}

// lie tells who hears something that who 3 may say.
func (s *storm) lie(who int) {
	n := s.w.Node(who)
	b, _ := pool.Pack(n.Log().Height(), [][]byte{{byte(s.r.Intn(9)), 7}})
	m := api.Msg{Height: n.Log().Height(), Vote: api.Vote{Kind: 1 + s.r.Intn(3), Round: n.Log().Round(), From: 3, Value: pool.Name(b), Valid: -1}}
	if len(s.said) > 0 && s.r.Intn(2) == 0 {
		m.Vote.Value = s.said[s.r.Intn(len(s.said))].Vote.Value
	}
	if m.Vote.Kind == 1 {
		m.Vote.Value, m.Block = pool.Name(b), b
	}
	s.w.Do(tells(who, node.Input{Kind: 3, Msg: m}))
}

// message is the next one, mostly.
func (s *storm) message(who int) int {
	if s.r.Intn(10) == 0 || s.next[who] >= len(s.said) {
		return s.late(len(s.said))
	}
	s.next[who]++
	return s.next[who] - 1
}

func (s *storm) step() {
	who := s.r.Intn(3)
	switch k := s.r.Intn(40); {
	case k == 0:
		s.w.Do(starts(who))
	case k == 1:
		s.lie(who)
	case k == 2:
		s.w.Do(crashes(who, s.message(who), s.r.Intn(150)))
	case k == 3:
		s.w.Do(catchesUp(who))
	case k == 4:
		s.w.Do(deals(who, uint64(s.r.Intn(20)), uint64(s.r.Intn(20))))
	case k == 5:
		s.w.Do(takes(who, s.r.Intn(20)))
	case k == 6:
		s.w.Do(tells(who, node.Input{Kind: 2, Tx: []byte{byte(s.r.Intn(100)), byte(who)}}))
	case k < 9 || s.next[who] == len(s.said):
		s.w.Do(isOver(who, s.late(len(s.w.Timers(who)))))
	default:
		s.w.Do(hears(who, s.message(who)))
	}
	s.said = s.w.Said()
}

// TestOneLog (T1, T4): whatever is lost, late, twice, or forged, and whoever crashes, there is one log, and nobody votes twice.
func TestOneLog(t *testing.T) {
	r := rand.New(rand.NewSource(36))
	height := uint64(0)
	for range 25 {
		s := &storm{r: r, w: made(t, 4), next: make([]int, 3)}
		for who := range 3 {
			s.w.Do(starts(who))
		}
		for range 1500 {
			s.step()
		}
		voted := map[[4]int]api.Vote{}
		for _, m := range s.w.Said() {
			key := [4]int{int(m.Height), m.Vote.Kind, m.Vote.Round, m.Vote.From}
			if was, ok := voted[key]; ok && was != m.Vote {
				t.Fatal("two values in a round", was, m.Vote)
			}
			voted[key] = m.Vote
		}
		for who := range 3 {
			height += s.w.Node(who).Log().Height()
			for other := range who {
				agree(t, s.w.Node(who), s.w.Node(other))
			}
		}
	}
	if height < 200 {
		t.Error("seldom decided", height)
	}
}

// TestBound (T2): a share is right just if it is the value of what was committed to; so many recover the secret, and nothing else opens.
func TestBound(t *testing.T) {
	g := little(t)
	for secret := range uint64(11) {
		for slope := range uint64(11) {
			coeffs := []api.Nat{limb.Small(secret), limb.Small(slope)}
			commits, shares, e := share.Deal(g, coeffs, 5)
			if e != api.OK {
				t.Fatal(e)
			}
			var right []api.Piece
			for slot := range shares {
				for n := range uint64(11) {
					p := api.Piece{Slot: slot, Share: limb.Small(n)}
					if e := share.Right(g, commits, p); (e == api.OK) != (p.Share == shares[slot]) {
						t.Fatal(secret, slope, p, e)
					} else if e == api.OK {
						right = append(right, p)
					}
				}
			}
			for i := range right {
				for k := range i {
					if got, e := share.Recover(g, commits, []api.Piece{right[k], right[i]}); got != coeffs[0] || e != api.OK {
						t.Fatal(secret, slope, i, k, got, e)
					}
				}
			}
			for n := range uint64(30) {
				if share.Opens(g, commits, limb.Small(n)) != (n == secret) {
					t.Fatal("opens", secret, n)
				}
			}
		}
	}
}

// TestOneSeed (T3): once it is told who is qualified the seed is settled, whoever reveals; who does not forfeits, nobody else, and money stays.
func TestOneSeed(t *testing.T) {
	var seeds []api.Digest
	for silent := range 5 { // who 4: nobody
		w := made(t, 4)
		p := newPlayer(t, w)
		if silent < 4 {
			p.silence(silent)
		}
		p.play(1)
		d := w.Done(0)[0]
		seeds = append(seeds, d.Seed)
		faults, stakes := make([]int, 4), slices.Repeat([]uint64{5}, 4)
		if silent < 4 {
			faults[silent] = 4
			stakes[silent] = 3 // of the pot, which is 2, nobody's part is one
		}
		if !slices.Equal(d.Qualified, []int{0, 1, 2, 3}) || !slices.Equal(d.Faults, faults) || !slices.Equal(d.Stakes, stakes) {
			t.Error(silent, d)
		}
		for who := range 4 {
			agree(t, w.Node(who), w.Node(0))
			if n := w.Node(who).Beacon().Money(); n.Total() != 80 || n.Treasury() != 20-sum(stakes) {
				t.Error(silent, who, n.Total(), n.Treasury())
			}
		}
	}
	for i, d := range seeds {
		if d != seeds[0] {
			t.Error("another seed", i)
		}
	}
}

func sum(l []uint64) uint64 {
	all := uint64(0)
	for _, n := range l {
		all += n
	}
	return all
}

// silence lets somebody's Reveal be decided ahead of its time: it is refused, and never waits again.
func (p *player) silence(who int) {
	p.t.Helper()
	x, e := epoch.Encode(api.Tx{Kind: api.TxReveal, From: who, Value: p.coeffs(who, 0)[0]})
	if e != api.OK {
		p.t.Fatal(e)
	}
	does(p.t, p.w, tells(who, node.Input{Kind: 2, Tx: x}), api.OK)
}

// TestFaultyDealers: who deals what is none, or deals nothing, is found out by all, and the others' seed comes.
func TestFaultyDealers(t *testing.T) {
	w := made(t, 4)
	p := newPlayer(t, w)
	usual := p.coeffs
	p.coeffs = func(who int, number uint64) []api.Nat {
		if who == 3 {
			return nil
		}
		return usual(who, number)
	}
	spoilt, _ := epoch.Encode(api.Tx{Kind: api.TxDeal, From: 3, Commits: []api.Nat{{5}}})
	does(t, w, tells(3, node.Input{Kind: 2, Tx: spoilt}), api.OK)
	p.hidden = func(from, to int) bool { return from == 0 && to == 1 } // 0 opens what 1 does not get
	p.play(1)
	for who := range 4 {
		d := w.Done(who)[0]
		if !slices.Equal(d.Qualified, []int{0, 1, 2}) || !slices.Equal(d.Faults, []int{0, 0, 0, 1}) || !slices.Equal(d.Stakes, []uint64{5, 5, 5, 3}) {
			t.Error(who, d)
		}
		agree(t, w.Node(who), w.Node(0))
	}
}

// TestLargeGroup goes through an epoch in a group whose order has 255 bits, with stakes of all kinds.
func TestLargeGroup(t *testing.T) {
	g, e := group.New(sample.Large())
	if e != api.OK {
		t.Fatal(e)
	}
	c := config(4)
	c.Slots, c.T = 5, 2
	w, e := world.New(g, c, []uint64{20, 20, 20, 20}, []uint64{7, 5, 6, 2}, 1, first)
	if e != api.OK {
		t.Fatal(e)
	}
	p := newPlayer(t, w)
	r := rand.New(rand.NewSource(37))
	secrets := make([]api.Nat, 4)
	p.coeffs = func(who int, number uint64) []api.Nat {
		l := make([]api.Nat, 3)
		for i := range l {
			l[i] = api.Nat{r.Uint64(), r.Uint64(), r.Uint64(), r.Uint64()}
		}
		if number == 0 {
			secrets[who] = l[0]
		}
		return l
	}
	p.play(1)
	want := beacon.Done{Seed: draw.Seed(0, first, draw.Sum(g.Q(), secrets), []int{0, 1, 2, 3}), Qualified: []int{0, 1, 2, 3}, Faults: make([]int, 4), Stakes: []uint64{7, 5, 6, 2}}
	for who := range 4 {
		if d := w.Done(who)[0]; !sameDone(d, want) {
			t.Error(who, d)
		}
	}
}

// TestCrashesAreSilent (T4): behind a crash a node is what it was, or would have been, at whatever byte its record breaks off.
func TestCrashesAreSilent(t *testing.T) {
	for part := 0; part < 140; part += 3 {
		w := made(t, 2)
		does(t, w, starts(0), api.OK)
		does(t, w, starts(1), api.OK)
		before := w.Node(1).Disk()
		does(t, w, crashes(1, 0, part), api.OK)
		after := w.Node(1)
		heard := len(after.Disk()) > len(before)
		if e := w.Do(hears(1, 0)); (e == api.ErrSame) != heard || !heard && e != api.OK {
			t.Error(part, e, heard)
		}
		votes := 0
		for _, m := range w.Said() {
			if m.Vote.From == 1 && m.Vote.Kind == api.Prevote {
				votes++
			}
		}
		if heard && votes != 0 || !heard && votes != 1 {
			t.Error(part, votes, heard)
		}
	}
	// Who has dealt, and crashed, does not deal another polynomial.
	w := made(t, 2)
	does(t, w, starts(0), api.OK)
	does(t, w, deals(1, 3), api.OK)
	does(t, w, crashes(1, 0, 0), api.OK)
	does(t, w, deals(1, 4), api.ErrSame)
	if l := w.Node(1).Holder().Held(1); !slices.Equal(l, []api.Piece{{Slot: 1, Share: limb.Small(3)}}) {
		t.Error(l)
	}
}
