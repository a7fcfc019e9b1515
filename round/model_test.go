package round_test

import (
	"math/rand"
	"slices"
	"testing"

	"sortition/api"
	"sortition/round"
)

// model is a state as the promises tell it, made anew from all messages that count.
type model struct {
	stakes        []uint64
	me, shift     int
	heard         []api.Vote
	good          map[int]bool // by a proposal's round
	round, step   int
	locked, valid api.Digest
	lockedIn      int
	validIn       int
	decided       api.Digest
	was           map[string]bool // what was done in this round
}

func newModel(stakes []uint64, me, shift int) *model {
	return &model{stakes: stakes, me: me, shift: shift, good: map[int]bool{}, lockedIn: -1, validIn: -1}
}

func (m *model) all() uint64 {
	sum := uint64(0)
	for _, s := range m.stakes {
		sum += s
	}
	return sum
}

func (m *model) proposal(r int) (api.Vote, bool) {
	for _, x := range m.heard {
		if x.Kind == 1 && x.Round == r {
			return x, true
		}
	}
	return api.Vote{}, false
}

func (m *model) stake(asked func(x api.Vote) bool) uint64 {
	sum := uint64(0)
	for who, s := range m.stakes {
		if slices.ContainsFunc(m.heard, func(x api.Vote) bool { return x.From == who && asked(x) }) {
			sum += s
		}
	}
	return sum
}

func (m *model) quorum(kind, r int, v api.Digest) bool {
	return 3*m.stake(func(x api.Vote) bool { return x.Kind == kind && x.Round == r && x.Value == v }) > 2*m.all()
}

func (m *model) enough(kind, r int) bool {
	return 3*m.stake(func(x api.Vote) bool { return x.Kind == kind && x.Round == r }) > 2*m.all()
}

func (m *model) begin(r int) []api.Act {
	m.round, m.step, m.was = r, 1, map[string]bool{}
	if (m.shift+r)%len(m.stakes) != m.me {
		return []api.Act{timer(4, r)}
	}
	if m.validIn >= 0 {
		return []api.Act{{Kind: 1, Round: r, Value: m.valid, Valid: m.validIn}}
	}
	return []api.Act{{Kind: 1, Round: r, Value: own, Valid: -1}}
}

func (m *model) vote(kind int, v api.Digest) []api.Act {
	m.step = kind
	return []api.Act{act(kind, m.round, v)}
}

// rule follows the first rule that can be followed.
func (m *model) rule() ([]api.Act, bool) {
	for r := range 61 {
		if p, ok := m.proposal(r); ok && m.quorum(3, r, p.Value) {
			m.decided = p.Value
			return []api.Act{act(7, r, p.Value)}, true
		}
	}
	for r := 60; r > m.round; r-- {
		if 3*m.stake(func(x api.Vote) bool { return x.Round == r }) > m.all() {
			return m.begin(r), true
		}
	}
	p, proposed := m.proposal(m.round)
	good := m.good[m.round]
	prevote := func(free bool) []api.Act {
		if good && (free || m.locked == p.Value) {
			return m.vote(2, p.Value)
		}
		return m.vote(2, none)
	}
	switch {
	case m.step == 1 && proposed && p.Valid == -1:
		return prevote(m.lockedIn == -1), true
	case m.step == 1 && proposed && p.Valid >= 0 && m.quorum(2, p.Valid, p.Value):
		return prevote(m.lockedIn <= p.Valid), true
	case m.step == 2 && m.enough(2, m.round) && !m.was["prevotes"]:
		m.was["prevotes"] = true
		return []api.Act{timer(5, m.round)}, true
	case m.step >= 2 && proposed && good && m.quorum(2, m.round, p.Value) && !m.was["valid"]:
		m.was["valid"] = true
		m.valid, m.validIn = p.Value, m.round
		if m.step == 3 {
			return nil, true
		}
		m.locked, m.lockedIn = p.Value, m.round
		return m.vote(3, p.Value), true
	case m.step == 2 && m.quorum(2, m.round, none):
		return m.vote(3, none), true
	case m.enough(3, m.round) && !m.was["precommits"]:
		m.was["precommits"] = true
		return []api.Act{timer(6, m.round)}, true
	}
	return nil, false
}

func (m *model) follow() []api.Act {
	var acts []api.Act
	for m.step > 0 && m.decided == none {
		more, ok := m.rule()
		if !ok {
			break
		}
		acts = append(acts, more...)
	}
	return acts
}

func (m *model) start() []api.Act {
	if m.step > 0 {
		return nil
	}
	return append(m.begin(0), m.follow()...)
}

func (m *model) hear(x api.Vote, good bool) ([]api.Act, api.Errno) {
	n := len(m.stakes)
	if x.Kind < 1 || x.Kind > 3 || x.Round < 0 || x.Round > 60 || x.From < 0 || x.From >= n {
		return nil, api.ErrArg
	}
	if x.Kind == 1 && (x.Valid < -1 || x.Valid >= x.Round || x.From != (m.shift+x.Round)%n || x.Value == none) {
		return nil, api.ErrArg
	}
	for _, y := range m.heard {
		if y.Kind == x.Kind && y.Round == x.Round && y.From == x.From {
			if y.Value == x.Value && (x.Kind > 1 || y.Valid == x.Valid) {
				return nil, api.ErrSame
			}
			return nil, api.ErrFull
		}
	}
	if x.Kind > 1 && m.stakes[x.From] == 0 {
		return nil, api.ErrNone
	}
	m.heard = append(m.heard, x)
	if x.Kind == 1 {
		m.good[x.Round] = good
	}
	return m.follow(), api.OK
}

func (m *model) timeout(kind, r int) []api.Act {
	if m.step == 0 || m.decided != none || r != m.round {
		return nil
	}
	var acts []api.Act
	switch {
	case kind == 4 && m.step == 1:
		acts = m.vote(2, none)
	case kind == 5 && m.step == 2:
		acts = m.vote(3, none)
	case kind == 6 && r < 60:
		acts = m.begin(r + 1)
	}
	return append(acts, m.follow()...)
}

func (m *model) is(t *testing.T, s *round.State) {
	t.Helper()
	l, lr := s.Locked()
	v, vr := s.Valid()
	d, ok := s.Decided()
	if s.Round() != m.round || s.Step() != m.step || l != m.locked || lr != m.lockedIn || v != m.valid || vr != m.validIn || d != m.decided || ok != (d != none) {
		t.Fatal(s.Round(), s.Step(), l, lr, v, vr, d, m)
	}
}

// TestAsPromised hears messages and timers by chance: all is as the promises tell it.
func TestAsPromised(t *testing.T) {
	r := rand.New(rand.NewSource(24))
	values := []api.Digest{a, a, a, a, b, own, none}
	kinds := map[int]int{}
	for run := range 1500 {
		n := 1 + r.Intn(5)
		stakes := make([]uint64, n)
		for who := range stakes {
			stakes[who] = uint64(r.Intn(4))
		}
		me, shift := r.Intn(n), r.Intn(9)
		m, s := newModel(stakes, me, shift), made(t, stakes, me, shift)
		rounds := 1 + r.Intn(6)
		if run%50 == 0 {
			rounds = 61
		}
		var own []api.Act // what is to be heard of who it is
		begins := r.Intn(15)
		for step := range 80 {
			var want, got []api.Act
			switch x := r.Intn(12); {
			case step == begins:
				want, got = m.start(), s.Start()
			case x == 0:
				kind, at := 4+r.Intn(3), m.round
				if r.Intn(6) == 0 {
					kind, at = r.Intn(9), r.Intn(7)-1
				}
				want, got = m.timeout(kind, at), s.Timeout(kind, at)
			case x < 4 && len(own) > 0:
				y := api.Vote{Kind: own[0].Kind, Round: own[0].Round, From: me, Value: own[0].Value, Valid: own[0].Valid}
				own = own[1:]
				want, got = both(t, m, s, y, true)
			default:
				y := api.Vote{Kind: 1 + r.Intn(3), Round: r.Intn(rounds), From: r.Intn(n), Value: values[r.Intn(len(values))]}
				if r.Intn(3) > 0 {
					y.Round = min(60, max(0, m.round+r.Intn(2)-r.Intn(2)))
				}
				if y.Kind == 1 {
					y.From, y.Valid = s.Proposer(y.Round), r.Intn(y.Round+1)-1
				}
				if r.Intn(30) == 0 {
					y.Kind, y.Round, y.From, y.Valid = r.Intn(6)-1, r.Intn(70)-4, r.Intn(n+2)-1, r.Intn(5)-2
				}
				want, got = both(t, m, s, y, r.Intn(5) > 0)
			}
			if !slices.Equal(got, want) {
				t.Fatal(run, step, got, want)
			}
			for _, x := range got {
				kinds[x.Kind]++
				if x.Kind <= 3 {
					own = append(own, x)
				}
			}
			m.is(t, s)
		}
	}
	for _, kind := range []int{1, 2, 3, 4, 5, 6, 7} {
		if kinds[kind] < 50 {
			t.Error("seldom", kind, kinds[kind])
		}
	}
}

func both(t *testing.T, m *model, s *round.State, y api.Vote, good bool) (want, got []api.Act) {
	t.Helper()
	want, we := m.hear(y, good)
	got, ge := s.Hear(y, good)
	if we != ge {
		t.Fatal(y, ge, we)
	}
	return want, got
}

// crowd are some who follow the rules, and one who does not; what is said may be lost, and comes in any order.
type crowd struct {
	r      *rand.Rand
	states []*round.State
	said   []api.Vote
	sent   map[[3]int]api.Digest // by who, kind and round
}

func (c *crowd) done(t *testing.T, who int, acts []api.Act) {
	t.Helper()
	for _, x := range acts {
		if x.Kind > 3 {
			continue
		}
		key := [3]int{who, x.Kind, x.Round}
		if _, ok := c.sent[key]; ok {
			t.Fatal("twice in a round", key)
		}
		c.sent[key] = x.Value
		y := api.Vote{Kind: x.Kind, Round: x.Round, From: who, Value: x.Value, Valid: x.Valid}
		c.said = append(c.said, y)
		more, _ := c.states[who].Hear(y, true)
		c.done(t, who, more)
	}
}

// lie says something for the one who does not follow the rules, which is the last one.
func (c *crowd) lie() {
	y := api.Vote{Kind: 1 + c.r.Intn(3), Round: c.r.Intn(4), From: len(c.states), Value: []api.Digest{a, b, own, none}[c.r.Intn(4)], Valid: -1}
	if len(c.said) > 0 && c.r.Intn(2) == 0 {
		y.Value = c.said[c.r.Intn(len(c.said))].Value
	}
	if y.Kind == 1 && y.Round > 0 {
		y.Valid = c.r.Intn(y.Round+1) - 1
	}
	c.said = append(c.said, y)
}

// TestFollows: no two of those who follow the rules decide unlike values, and none votes twice in a round.
func TestFollows(t *testing.T) {
	r := rand.New(rand.NewSource(25))
	decided, later := 0, 0
	for range 400 {
		c := &crowd{r: r, sent: map[[3]int]api.Digest{}}
		stakes := []uint64{1, 1, 1, 1}
		shift := r.Intn(4)
		for who := range 3 {
			s, _ := round.New(stakes, who, shift, api.Digest{byte(10 + who)})
			c.states = append(c.states, s)
		}
		for range 400 {
			who := r.Intn(3)
			s := c.states[who]
			switch x := r.Intn(20); {
			case x == 0 || s.Step() == 0:
				c.done(t, who, s.Start())
			case x == 1:
				c.done(t, who, s.Timeout(4+r.Intn(3), s.Round()))
			case x == 2:
				c.lie()
			case len(c.said) > 0:
				more, _ := s.Hear(c.said[r.Intn(len(c.said))], r.Intn(10) > 0)
				c.done(t, who, more)
			}
		}
		var value api.Digest
		for who, s := range c.states {
			v, ok := s.Decided()
			if ok && value != none && v != value {
				t.Fatal("unlike values", who)
			}
			if ok {
				value = v
				decided++
				if s.Round() > 0 {
					later++
				}
			}
		}
	}
	if decided < 100 || later < 50 {
		t.Error("seldom decided", decided, later)
	}
}
