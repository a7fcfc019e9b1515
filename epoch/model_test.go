package epoch_test

import (
	"math/rand"
	"slices"
	"testing"

	"sortition/api"
	"sortition/draw"
	"sortition/epoch"
	"sortition/group"
	"sortition/limb"
	"sortition/portion"
	"sortition/sample"
	"sortition/share"
)

// model is an epoch as the promises tell it, made anew from all that was accepted.
type model struct {
	g        *group.Group
	c        api.Config
	stakes   []uint64
	counts   []int
	owners   []int
	accepted []api.Tx
	spoilt   []api.Tx // Deals that were malformed, and Opens that failed
}

func newModel(g *group.Group, c api.Config, stakes []uint64) *model {
	m := &model{g: g, c: c, stakes: stakes}
	m.counts, _ = portion.Share(stakes, c.Slots)
	m.owners, _ = portion.Owners(m.counts)
	return m
}

func has(l []api.Tx, kind, from, dealer, slot int) bool {
	return slices.ContainsFunc(l, func(x api.Tx) bool {
		return x.Kind == kind && x.From == from && (dealer < 0 || x.Dealer == dealer) && (slot < 0 || x.Slot == slot)
	})
}

func (m *model) commits(dealer int) []api.Nat {
	for _, x := range m.accepted {
		if x.Kind == 1 && x.From == dealer {
			return x.Commits
		}
	}
	return nil
}

func (m *model) covered(dealer, slot int) bool {
	return has(m.accepted, 2, m.owners[slot], dealer, -1) || has(m.accepted, 3, dealer, -1, slot)
}

func (m *model) qualified(who int) bool {
	if m.commits(who) == nil {
		return false
	}
	for slot := range m.owners {
		if !m.covered(who, slot) {
			return false
		}
	}
	return true
}

func (m *model) secret(who int) (api.Nat, bool) {
	if !m.qualified(who) {
		return api.Nat{}, false
	}
	var l []api.Piece
	for _, x := range m.accepted {
		switch {
		case x.Kind == 4 && x.From == who:
			return x.Value, true
		case x.Kind == 3 && x.From == who || x.Kind == 5 && x.Dealer == who:
			l = append(l, api.Piece{Slot: x.Slot, Share: x.Value})
		}
	}
	n, e := share.Recover(m.g, m.commits(who), l)
	return n, e == api.OK
}

func (m *model) fault(who int) int {
	switch {
	case has(m.spoilt, 1, who, -1, -1):
		return 1
	case has(m.spoilt, 3, who, -1, -1):
		return 2
	case m.commits(who) != nil && !m.qualified(who):
		return 3
	case m.qualified(who) && !has(m.accepted, 4, who, -1, -1):
		return 4
	}
	return 0
}

func (m *model) phase(at int) int {
	switch c := m.c; {
	case at < 0:
		return 0
	case at < c.Deal:
		return 1
	case at < c.Deal+c.Ack:
		return 2
	case at < c.Deal+c.Ack+c.Open:
		return 3
	case at < c.Deal+c.Ack+c.Open+c.Reveal:
		return 4
	}
	return 5
}

func (m *model) apply(at int, x api.Tx) api.Errno {
	n := len(m.stakes)
	there := func(who int) bool { return who >= 0 && who < n }
	slot := x.Slot >= 0 && x.Slot < m.c.Slots
	if x.Kind < 1 || x.Kind > 5 || !there(x.From) || (x.Kind == 2 || x.Kind == 5) && !there(x.Dealer) || (x.Kind == 3 || x.Kind == 5) && !slot {
		return api.ErrArg
	}
	if phase := m.phase(at); phase != x.Kind && !(x.Kind == 5 && phase == 4) {
		return api.ErrPhase
	}
	e := m.error(x)
	if e == api.OK {
		m.accepted = append(m.accepted, x)
	} else if x.Kind == 1 && e == api.ErrShape || x.Kind == 3 && e == api.ErrShare {
		m.spoilt = append(m.spoilt, x)
	}
	return e
}

func (m *model) error(x api.Tx) api.Errno {
	right := func(dealer int) bool {
		return share.Right(m.g, m.commits(dealer), api.Piece{Slot: x.Slot, Share: x.Value}) == api.OK
	}
	var lacks, twice, wrong bool
	e := api.ErrShare
	switch x.Kind {
	case 1:
		lacks, twice = m.stakes[x.From] == 0, has(m.accepted, 1, x.From, -1, -1) || has(m.spoilt, 1, x.From, -1, -1)
		wrong, e = len(x.Commits) != m.c.T+1 || slices.ContainsFunc(x.Commits, func(a api.Nat) bool { return !m.g.Member(a) }), api.ErrShape
	case 2:
		lacks, twice = m.commits(x.Dealer) == nil || m.counts[x.From] == 0, has(m.accepted, 2, x.From, x.Dealer, -1)
	case 3:
		lacks, twice = m.commits(x.From) == nil, has(m.accepted, 3, x.From, -1, x.Slot) || has(m.spoilt, 3, x.From, -1, x.Slot)
		wrong = !right(x.From)
	case 4:
		lacks, twice = !m.qualified(x.From), has(m.accepted, 4, x.From, -1, -1)
		wrong = !share.Opens(m.g, m.commits(x.From), x.Value)
	case 5:
		lacks, twice = !m.qualified(x.Dealer) || m.owners[x.Slot] != x.From, has(m.accepted, 5, x.From, x.Dealer, x.Slot) || has(m.accepted, 3, x.Dealer, -1, x.Slot)
		wrong = !right(x.Dealer)
	}
	switch {
	case lacks:
		return api.ErrNone
	case twice:
		return api.ErrSame
	case wrong:
		return e
	}
	return api.OK
}

func (m *model) is(t *testing.T, s *epoch.State, at int) {
	t.Helper()
	var qualified []int
	var secrets []api.Nat
	all := true
	for who := range m.stakes {
		if m.qualified(who) {
			qualified = append(qualified, who)
		}
		n, ok := m.secret(who)
		if got, gotOk := s.Secret(who); got != n || gotOk != ok {
			t.Fatal("Secret", who, got, gotOk, n, ok)
		}
		if ok {
			secrets = append(secrets, n)
		}
		all = all && ok == m.qualified(who)
		if !slices.Equal(s.Commits(who), m.commits(who)) || s.Revealed(who) != has(m.accepted, 4, who, -1, -1) || s.Faults()[who] != m.fault(who) {
			t.Fatal(who, s.Commits(who), s.Revealed(who), s.Faults(), m.fault(who))
		}
		for slot := range m.c.Slots {
			if s.Covered(who, slot) != m.covered(who, slot) {
				t.Fatal("Covered", who, slot)
			}
		}
	}
	if !slices.Equal(s.Qualified(), qualified) || s.Finished(at) != (all && m.phase(at) == 5) || s.Phase(at) != m.phase(at) || len(s.Faults()) != len(m.stakes) {
		t.Fatal(s.Qualified(), qualified, s.Finished(at), all, at)
	}
	var seed api.Digest
	if all {
		seed = draw.Seed(3, prev, draw.Sum(m.g.Q(), secrets), qualified)
	}
	if d, ok := s.Seed(); d != seed || ok != all {
		t.Fatal("Seed", d, ok, all)
	}
}

// dealing is a polynomial of each who, some of which deal wrongly.
type dealing struct {
	r      *rand.Rand
	g      *group.Group
	c      api.Config
	n      int
	coeffs [][]api.Nat
	honest int // of a hundred Txs how many are right
}

func newDealing(r *rand.Rand, g *group.Group, c api.Config, n, honest int) *dealing {
	d := &dealing{r: r, g: g, c: c, n: n, honest: honest}
	for range n {
		var l []api.Nat
		for range c.T + 1 {
			l = append(l, limb.Small(uint64(r.Intn(11))))
		}
		d.coeffs = append(d.coeffs, l)
	}
	return d
}

// tx is one by chance, mostly of the kind that fits a phase.
func (d *dealing) tx(phase int) api.Tx {
	r := d.r
	x := api.Tx{Kind: max(phase, 1), From: r.Intn(d.n), Dealer: r.Intn(d.n), Slot: r.Intn(d.c.Slots)}
	if phase == 4 && r.Intn(2) == 0 {
		x.Kind = 5
	}
	if r.Intn(12) == 0 {
		x.Kind, x.From, x.Dealer, x.Slot = r.Intn(9)-1, r.Intn(d.n+2)-1, r.Intn(d.n+2)-1, r.Intn(d.c.Slots+2)-1
	}
	who := max(0, min(x.From, d.n-1))
	switch x.Kind {
	case 1:
		x.Commits = share.Commit(d.g, d.coeffs[who])
	case 3:
		x.Value = share.Value(d.g, d.coeffs[who], x.Slot)
	case 4:
		x.Value = d.coeffs[who][0]
	case 5:
		x.Value = share.Value(d.g, d.coeffs[max(0, min(x.Dealer, d.n-1))], x.Slot)
	}
	if r.Intn(100) >= d.honest {
		x.Value = limb.Small(uint64(r.Intn(13)))
		if x.Kind == 1 && r.Intn(2) == 0 {
			x.Commits = append(x.Commits, limb.Small(1))[r.Intn(2):]
			x.Commits[0] = limb.Small(uint64(r.Intn(30)))
		}
	}
	return x
}

// TestAsPromised applies by chance: all is as the promises tell it.
func TestAsPromised(t *testing.T) {
	r := rand.New(rand.NewSource(31))
	g := little(t)
	seen := map[int]int{}
	finished := 0
	for run := range 400 {
		n := 1 + r.Intn(4)
		stakes := make([]uint64, n)
		for who := range stakes {
			stakes[who] = uint64(r.Intn(4))
		}
		stakes[r.Intn(n)]++
		slots := 1 + r.Intn(6)
		c := api.Config{T: r.Intn(min(slots, 3)), Slots: slots, Deal: 1 + r.Intn(2), Ack: 1 + r.Intn(2), Open: 1 + r.Intn(2), Reveal: 1 + r.Intn(2)}
		s, e := epoch.New(g, c, stakes, 3, prev)
		if e != api.OK {
			t.Fatal(e)
		}
		m := newModel(g, c, stakes)
		d := newDealing(r, g, c, n, []int{100, 98, 80}[run%3])
		for at := range c.Deal + c.Ack + c.Open + c.Reveal + 2 {
			for range 3 + 2*n*(1+run%3) {
				x := d.tx(m.phase(at))
				want := m.apply(at, x)
				if e := s.Apply(at, x); e != want {
					t.Fatal(at, x, e, want)
				}
			}
			m.is(t, s, at)
		}
		for who := range n {
			seen[m.fault(who)]++
		}
		if s.Finished(100) && len(s.Qualified()) > 0 {
			finished++
		}
	}
	for fault := range 5 {
		if seen[fault] < 20 {
			t.Error("seldom", fault, seen[fault])
		}
	}
	if finished < 50 {
		t.Error("seldom finished", finished)
	}
}

// TestFollows: whoever reveals, and whichever shares are posted, the seed is the same, once there is one; and who does all is not at fault.
func TestFollows(t *testing.T) {
	r := rand.New(rand.NewSource(32))
	g, e := group.New(sample.Large())
	if e != api.OK {
		t.Fatal(e)
	}
	c := config(1, 5)
	coeffs := make([][]api.Nat, 3)
	for who := range coeffs {
		coeffs[who] = []api.Nat{{r.Uint64(), r.Uint64(), r.Uint64()}, {r.Uint64(), r.Uint64()}}
	}
	var seeds []api.Digest
	for reveals := range 8 {
		s, e := epoch.New(g, c, []uint64{5, 3, 2}, 3, prev)
		if e != api.OK {
			t.Fatal(e)
		}
		for who, l := range coeffs {
			commits, shares, _ := share.Deal(g, l, 5)
			applies(t, s, 0, api.Tx{Kind: 1, From: who, Commits: commits}, api.OK)
			for k := range 2 {
				applies(t, s, 2, ack(k, who), api.OK)
			}
			applies(t, s, 3, api.Tx{Kind: 3, From: who, Slot: 4, Value: shares[4]}, api.OK) // who 2 acks nothing
		}
		if !slices.Equal(s.Qualified(), []int{0, 1, 2}) {
			t.Fatal(s.Qualified())
		}
		want := make([]int, 3)
		for who, l := range coeffs {
			if reveals>>who&1 == 1 {
				applies(t, s, 4, api.Tx{Kind: 4, From: who, Value: l[0]}, api.OK)
				continue
			}
			want[who] = 4
			slot := r.Intn(4)
			applies(t, s, 5, api.Tx{Kind: 5, From: []int{0, 0, 0, 1}[slot], Dealer: who, Slot: slot, Value: share.Value(g, l, slot)}, api.OK)
		}
		d, ok := s.Seed()
		if !ok || !s.Finished(6) || !slices.Equal(s.Faults(), want) {
			t.Error(reveals, ok, s.Faults())
		}
		seeds = append(seeds, d)
	}
	for i, d := range seeds {
		if d != seeds[0] {
			t.Error("another seed", i)
		}
	}
}
