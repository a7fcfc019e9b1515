package round_test

import (
	"math"
	"slices"
	"testing"

	"sortition/api"
	"sortition/round"
)

const top = math.MaxUint64

var (
	none api.Digest
	own  = api.Digest{9}
	a, b = api.Digest{1}, api.Digest{2}
)

func made(t *testing.T, stakes []uint64, me, shift int) *round.State {
	t.Helper()
	s, e := round.New(stakes, me, shift, own)
	if e != api.OK || s == nil {
		t.Fatal(stakes, me, shift, e)
	}
	return s
}

// four is who 1 of four with one stake each; who 0 proposes in round 0.
func four(t *testing.T) *round.State {
	s := made(t, []uint64{1, 1, 1, 1}, 1, 0)
	if l := s.Start(); !slices.Equal(l, []api.Act{timer(4, 0)}) {
		t.Fatal(l)
	}
	return s
}

func timer(kind, r int) api.Act { return api.Act{Kind: kind, Round: r} }

func act(kind, r int, v api.Digest) api.Act { return api.Act{Kind: kind, Round: r, Value: v} }

func proposal(r, from int, v api.Digest, valid int) api.Vote {
	return api.Vote{Kind: api.Proposal, Round: r, From: from, Value: v, Valid: valid}
}

func prevote(r, from int, v api.Digest) api.Vote {
	return api.Vote{Kind: api.Prevote, Round: r, From: from, Value: v}
}

func precommit(r, from int, v api.Digest) api.Vote {
	return api.Vote{Kind: api.Precommit, Round: r, From: from, Value: v}
}

func hears(t *testing.T, s *round.State, m api.Vote, good bool, want ...api.Act) {
	t.Helper()
	if l, e := s.Hear(m, good); !slices.Equal(l, want) || e != api.OK {
		t.Errorf("heard %v: %v, %v; want %v", m, l, e, want)
	}
}

func over(t *testing.T, s *round.State, kind, r int, want ...api.Act) {
	t.Helper()
	if l := s.Timeout(kind, r); !slices.Equal(l, want) {
		t.Errorf("timer %d of %d: %v; want %v", kind, r, l, want)
	}
}

func stands(t *testing.T, s *round.State, r, step int, locked api.Digest, lockedIn int, valid api.Digest, validIn int) {
	t.Helper()
	l, lr := s.Locked()
	v, vr := s.Valid()
	if s.Round() != r || s.Step() != step || l != locked || lr != lockedIn || v != valid || vr != validIn {
		t.Error(s.Round(), s.Step(), l, lr, v, vr)
	}
}

func TestNew(t *testing.T) {
	for i, c := range []struct {
		stakes    []uint64
		me, shift int
		own       api.Digest
		e         api.Errno
	}{
		{[]uint64{1}, 0, 0, own, api.OK},
		{[]uint64{0, 0}, 1, math.MaxInt, own, api.OK},
		{slices.Repeat([]uint64{1}, 40), 39, 7, own, api.OK},
		{nil, 0, 0, own, api.ErrLong},
		{slices.Repeat([]uint64{1}, 41), 0, 0, own, api.ErrLong},
		{[]uint64{top, 1}, 0, 0, own, api.ErrOver},
		{[]uint64{1 << 63}, -1, -1, none, api.ErrOver},
		{nil, -1, -1, none, api.ErrLong},
		{[]uint64{1}, 1, 0, own, api.ErrArg},
		{[]uint64{1}, -1, 0, own, api.ErrArg},
		{[]uint64{1}, math.MinInt, 0, own, api.ErrArg},
		{[]uint64{1}, math.MaxInt, 0, own, api.ErrArg},
		{[]uint64{1}, 0, -1, own, api.ErrArg},
		{[]uint64{1}, 0, math.MinInt, own, api.ErrArg},
		{[]uint64{1}, 0, 0, none, api.ErrArg},
	} {
		s, e := round.New(c.stakes, c.me, c.shift, c.own)
		if e != c.e || (s == nil) != (e != api.OK) {
			t.Error(i, s, e)
		}
		if s != nil {
			stands(t, s, 0, 0, none, -1, none, -1)
			if v, ok := s.Decided(); v != none || ok {
				t.Error(i, v, ok)
			}
		}
	}
}

func TestProposers(t *testing.T) {
	for _, c := range []struct{ n, shift, round, want int }{
		{4, 0, 0, 0}, {4, 0, 5, 1}, {4, 3, 2, 1}, {4, 0, 60, 0}, {4, 1, 60, 1}, {7, 100, 60, 160 % 7},
		{3, math.MaxInt, 0, 1}, {3, math.MaxInt, 1, 2}, {3, math.MaxInt, 60, 1}, {40, math.MaxInt, 60, 27},
		{4, 0, -1, -1}, {4, 0, 61, -1}, {4, 0, math.MinInt, -1}, {4, 0, math.MaxInt, -1},
	} {
		s := made(t, slices.Repeat([]uint64{1}, c.n), 0, c.shift)
		if got := s.Proposer(c.round); got != c.want {
			t.Error(c, got)
		}
	}
}

func TestExample(t *testing.T) {
	s := four(t)
	hears(t, s, proposal(0, 0, a, -1), true, act(2, 0, a))
	hears(t, s, prevote(0, 0, a), true)
	hears(t, s, prevote(0, 1, a), true)
	hears(t, s, prevote(0, 2, a), true, timer(5, 0), act(3, 0, a))
	stands(t, s, 0, 3, a, 0, a, 0)
	hears(t, s, precommit(0, 0, a), true)
	hears(t, s, precommit(0, 1, a), true)
	hears(t, s, precommit(0, 2, a), true, act(7, 0, a))
	if v, ok := s.Decided(); v != a || !ok {
		t.Error(v, ok)
	}
	hears(t, s, precommit(0, 3, b), true) // it counts, and nothing is done any more
	hears(t, s, proposal(1, 1, b, -1), true)
	over(t, s, 6, 0)
	over(t, s, 4, 0)
	if l := s.Start(); len(l) != 0 {
		t.Error(l)
	}
	if _, e := s.Hear(precommit(0, 3, b), true); e != api.ErrSame {
		t.Error(e)
	}
	stands(t, s, 0, 3, a, 0, a, 0)
}

func TestStart(t *testing.T) {
	s := made(t, []uint64{1, 1, 1, 1}, 2, 2)
	stands(t, s, 0, 0, none, -1, none, -1)
	if l := s.Start(); !slices.Equal(l, []api.Act{{Kind: 1, Round: 0, Value: own, Valid: -1}}) {
		t.Error(l)
	}
	stands(t, s, 0, 1, none, -1, none, -1)
	if l := s.Start(); len(l) != 0 {
		t.Error(l)
	}
}

// TestHeardAheadOfStart: what came ahead of Start counts, and nothing is done till then.
func TestHeardAheadOfStart(t *testing.T) {
	s := made(t, []uint64{1, 1, 1, 1}, 1, 0)
	hears(t, s, proposal(0, 0, a, -1), true)
	for who := range 3 {
		hears(t, s, prevote(0, who, a), true)
		hears(t, s, precommit(0, who, none), true)
	}
	over(t, s, 4, 0)
	over(t, s, 6, 0)
	if _, e := s.Hear(prevote(0, 0, b), true); e != api.ErrFull {
		t.Error(e)
	}
	stands(t, s, 0, 0, none, -1, none, -1)
	if l := s.Start(); !slices.Equal(l, []api.Act{timer(4, 0), act(2, 0, a), timer(5, 0), act(3, 0, a), timer(6, 0)}) {
		t.Error(l)
	}

	s = made(t, []uint64{1, 1, 1, 1}, 1, 0)
	hears(t, s, prevote(7, 2, a), true)
	hears(t, s, precommit(7, 3, a), true)
	if l := s.Start(); !slices.Equal(l, []api.Act{timer(4, 0), timer(4, 7)}) {
		t.Error(l)
	}

	s = made(t, []uint64{1, 1, 1, 1}, 1, 0)
	hears(t, s, proposal(0, 0, a, -1), false)
	for who := range 3 {
		hears(t, s, precommit(0, who, a), true)
	}
	if l := s.Start(); !slices.Equal(l, []api.Act{timer(4, 0), act(7, 0, a)}) {
		t.Error(l)
	}
}

func TestWrongMessages(t *testing.T) {
	for i, m := range []api.Vote{
		{Kind: 0, From: 0, Value: a, Valid: -1}, {Kind: 4, Value: a}, {Kind: -1, Value: a}, {Kind: 7, Value: a}, {Kind: math.MaxInt, Value: a}, {Kind: math.MinInt, Value: a},
		prevote(-1, 0, a), prevote(61, 0, a), precommit(math.MaxInt, 0, a), precommit(math.MinInt, 0, a),
		prevote(0, -1, a), prevote(0, 4, a), precommit(0, math.MaxInt, a), precommit(0, math.MinInt, a),
		proposal(0, 0, a, -2), proposal(0, 0, a, 0), proposal(0, 0, a, 1), proposal(4, 0, a, 4), proposal(4, 0, a, math.MaxInt), proposal(4, 0, a, math.MinInt),
		proposal(0, 1, a, -1), proposal(1, 0, a, -1), proposal(61, 1, a, -1), proposal(-1, 3, a, -1), proposal(0, -1, a, -1), proposal(0, 4, a, -1),
		proposal(0, 0, none, -1), proposal(4, 0, none, 3),
	} {
		s := four(t)
		if l, e := s.Hear(m, true); len(l) != 0 || e != api.ErrArg {
			t.Error(i, m, l, e)
		}
		stands(t, s, 0, 1, none, -1, none, -1)
		hears(t, s, proposal(0, 0, a, -1), true, act(2, 0, a)) // nothing has changed
	}
}

func TestTwiceHeard(t *testing.T) {
	s := four(t)
	hears(t, s, proposal(4, 0, a, 2), true)
	hears(t, s, prevote(0, 2, a), true)
	hears(t, s, precommit(0, 2, a), true)
	hears(t, s, prevote(1, 2, b), true)
	hears(t, s, prevote(0, 3, none), true)
	for i, c := range []struct {
		m api.Vote
		e api.Errno
	}{
		{proposal(4, 0, a, 2), api.ErrSame},
		{proposal(4, 0, b, 2), api.ErrFull},
		{proposal(4, 0, a, 1), api.ErrFull},
		{proposal(4, 0, a, -1), api.ErrFull},
		{proposal(4, 0, none, 2), api.ErrArg},
		{prevote(0, 2, a), api.ErrSame},
		{prevote(0, 2, b), api.ErrFull},
		{prevote(0, 2, none), api.ErrFull},
		{prevote(0, 2, a), api.ErrSame},
		{prevote(0, 3, none), api.ErrSame},
		{prevote(0, 3, a), api.ErrFull},
		{precommit(0, 2, a), api.ErrSame},
		{precommit(0, 2, b), api.ErrFull},
		{prevote(1, 2, b), api.ErrSame},
		{prevote(1, 2, a), api.ErrFull},
	} {
		if l, e := s.Hear(c.m, true); len(l) != 0 || e != c.e {
			t.Error(i, l, e)
		}
	}
	stands(t, s, 0, 1, none, -1, none, -1)
}

func TestNoStake(t *testing.T) {
	s := made(t, []uint64{0, 1, 1, 1}, 1, 0)
	s.Start()
	for range 2 {
		if l, e := s.Hear(prevote(0, 0, a), true); len(l) != 0 || e != api.ErrNone {
			t.Error(l, e)
		}
		if l, e := s.Hear(precommit(3, 0, a), true); len(l) != 0 || e != api.ErrNone {
			t.Error(l, e)
		}
	}
	hears(t, s, proposal(0, 0, a, -1), true, act(2, 0, a)) // who proposes is no voter
	for who := 1; who <= 2; who++ {
		hears(t, s, prevote(0, who, a), true)
	}
	hears(t, s, prevote(0, 3, a), true, timer(5, 0), act(3, 0, a))
}

func TestTimeouts(t *testing.T) {
	s := made(t, []uint64{1, 1, 1, 1}, 1, 0)
	for kind := range 9 {
		over(t, s, kind, 0) // it has not begun
	}
	s = four(t)
	for _, r := range []int{-1, 1, 60, 61, math.MinInt, math.MaxInt} {
		for kind := range 9 {
			over(t, s, kind, r)
		}
	}
	for _, kind := range []int{-1, 0, 1, 2, 3, 5, 7, 8, math.MinInt, math.MaxInt} {
		over(t, s, kind, 0)
	}
	stands(t, s, 0, 1, none, -1, none, -1)
	over(t, s, 4, 0, act(2, 0, none))
	over(t, s, 4, 0)
	stands(t, s, 0, 2, none, -1, none, -1)
	over(t, s, 5, 0, act(3, 0, none))
	over(t, s, 5, 0)
	over(t, s, 4, 0)
	stands(t, s, 0, 3, none, -1, none, -1)
	over(t, s, 6, 0, api.Act{Kind: 1, Round: 1, Value: own, Valid: -1})
	stands(t, s, 1, 1, none, -1, none, -1)
	over(t, s, 6, 0)
	over(t, s, 6, 1, timer(4, 2)) // in whatever step
	over(t, s, 4, 2, act(2, 2, none))
	over(t, s, 6, 2, timer(4, 3))
	for r := 3; r < 60; r++ {
		want := timer(4, r+1)
		if (r+1)%4 == 1 {
			want = api.Act{Kind: 1, Round: r + 1, Value: own, Valid: -1}
		}
		over(t, s, 6, r, want)
	}
	stands(t, s, 60, 1, none, -1, none, -1)
	over(t, s, 6, 60)
	over(t, s, 4, 60, act(2, 60, none))
	over(t, s, 5, 60, act(3, 60, none))
	over(t, s, 6, 60)
	stands(t, s, 60, 3, none, -1, none, -1)
}

// TestTimeoutThenRules: rules are followed behind what a timer does.
func TestTimeoutThenRules(t *testing.T) {
	s := four(t)
	hears(t, s, prevote(0, 0, none), true)
	hears(t, s, prevote(0, 2, none), true)
	hears(t, s, prevote(0, 3, none), true)
	over(t, s, 4, 0, act(2, 0, none), timer(5, 0), act(3, 0, none)) // rules 5 and 7
	s = four(t)
	hears(t, s, proposal(1, 1, a, -1), true)
	over(t, s, 6, 0, api.Act{Kind: 1, Round: 1, Value: own, Valid: -1}, act(2, 1, a))
}

func TestPrevotes(t *testing.T) {
	s := four(t)
	hears(t, s, proposal(0, 0, a, -1), false, act(2, 0, none)) // it is not good
	stands(t, s, 0, 2, none, -1, none, -1)

	s = four(t)
	over(t, s, 6, 0, api.Act{Kind: 1, Round: 1, Value: own, Valid: -1})
	over(t, s, 6, 1, timer(4, 2))
	hears(t, s, proposal(2, 2, a, 0), true) // it had no quorum, as far as is known
	hears(t, s, prevote(0, 0, a), true)
	hears(t, s, prevote(0, 2, a), true)
	stands(t, s, 2, 1, none, -1, none, -1)
	hears(t, s, prevote(0, 3, a), true, act(2, 2, a))
	stands(t, s, 2, 2, none, -1, none, -1)

	s = four(t)
	over(t, s, 6, 0, api.Act{Kind: 1, Round: 1, Value: own, Valid: -1})
	over(t, s, 6, 1, timer(4, 2))
	for who := range 3 {
		hears(t, s, prevote(1, who, a), true)
	}
	hears(t, s, proposal(2, 2, a, 1), false, act(2, 2, none)) // a quorum, but it is not good
	s = four(t)
	over(t, s, 6, 0, api.Act{Kind: 1, Round: 1, Value: own, Valid: -1})
	over(t, s, 6, 1, timer(4, 2))
	for who := range 3 {
		hears(t, s, prevote(1, who, b), true)
	}
	hears(t, s, proposal(2, 2, a, 1), true) // the quorum is for something else
	stands(t, s, 2, 1, none, -1, none, -1)
}

// locked has locked and precommitted a in round 0, and is in round 2, which who 2 proposes.
func locked(t *testing.T) *round.State {
	s := four(t)
	hears(t, s, proposal(0, 0, a, -1), true, act(2, 0, a))
	hears(t, s, prevote(0, 0, a), true)
	hears(t, s, prevote(0, 1, a), true)
	hears(t, s, prevote(0, 2, a), true, timer(5, 0), act(3, 0, a))
	over(t, s, 6, 0, api.Act{Kind: 1, Round: 1, Value: a, Valid: 0}) // the valid value, with its round
	over(t, s, 6, 1, timer(4, 2))
	stands(t, s, 2, 1, a, 0, a, 0)
	return s
}

func TestLocked(t *testing.T) {
	s := locked(t)
	hears(t, s, proposal(2, 2, b, -1), true, act(2, 2, none)) // something else
	s = locked(t)
	hears(t, s, proposal(2, 2, a, -1), true, act(2, 2, a)) // the same
	s = locked(t)
	hears(t, s, proposal(2, 2, a, -1), false, act(2, 2, none))
	s = locked(t)
	hears(t, s, proposal(2, 2, a, 0), true, act(2, 2, a))
	s = locked(t)
	hears(t, s, proposal(2, 2, b, 1), true) // it has no quorum
	hears(t, s, prevote(1, 0, b), true)
	hears(t, s, prevote(1, 2, b), true)
	hears(t, s, prevote(1, 3, b), true, act(2, 2, b)) // now it has, and the lock is older
	stands(t, s, 2, 2, a, 0, a, 0)
	for who := range 2 {
		hears(t, s, prevote(2, who, b), true)
	}
	hears(t, s, prevote(2, 3, b), true, timer(5, 2), act(3, 2, b))
	stands(t, s, 2, 3, b, 2, b, 2)
}

// TestLockedLater: a quorum that is older than the lock does not free; one as old does.
func TestLockedLater(t *testing.T) {
	s := locked(t)
	hears(t, s, proposal(2, 2, a, 0), true, act(2, 2, a))
	for who := range 2 {
		hears(t, s, prevote(2, who, a), true)
	}
	hears(t, s, prevote(2, 2, a), true, timer(5, 2), act(3, 2, a))
	stands(t, s, 2, 3, a, 2, a, 2)
	over(t, s, 6, 2, timer(4, 3))
	for _, who := range []int{0, 2, 3} {
		hears(t, s, prevote(1, who, b), true)
	}
	hears(t, s, proposal(3, 3, b, 1), true, act(2, 3, none))
	over(t, s, 6, 3, timer(4, 4))
	hears(t, s, proposal(4, 0, a, 0), true, act(2, 4, a)) // the locked one, whatever its round
	over(t, s, 6, 4, api.Act{Kind: 1, Round: 5, Value: a, Valid: 2})
	over(t, s, 6, 5, timer(4, 6))
	hears(t, s, proposal(6, 2, a, 2), true, act(2, 6, a))
}

func TestQuorumsOfPrevotes(t *testing.T) {
	s := four(t) // enough, but for unlike values: a timer alone, once
	hears(t, s, proposal(0, 0, a, -1), true, act(2, 0, a))
	hears(t, s, prevote(0, 0, a), true)
	hears(t, s, prevote(0, 2, b), true)
	hears(t, s, prevote(0, 3, none), true, timer(5, 0))
	hears(t, s, prevote(0, 1, a), true)
	stands(t, s, 0, 2, none, -1, none, -1)
	over(t, s, 5, 0, act(3, 0, none))

	s = four(t) // a quorum for none
	hears(t, s, proposal(0, 0, a, -1), true, act(2, 0, a))
	hears(t, s, prevote(0, 0, none), true)
	hears(t, s, prevote(0, 2, none), true)
	hears(t, s, prevote(0, 3, none), true, timer(5, 0), act(3, 0, none))
	stands(t, s, 0, 3, none, -1, none, -1)

	s = four(t) // a quorum, and then the proposal: it is valid, and locked in step 2
	for _, who := range []int{0, 2, 3} {
		hears(t, s, prevote(0, who, a), true)
	}
	stands(t, s, 0, 1, none, -1, none, -1)
	hears(t, s, proposal(0, 0, a, -1), true, act(2, 0, a), timer(5, 0), act(3, 0, a))
	stands(t, s, 0, 3, a, 0, a, 0)

	s = four(t) // in step 3 it is valid, but not locked
	over(t, s, 4, 0, act(2, 0, none))
	over(t, s, 5, 0, act(3, 0, none))
	hears(t, s, proposal(0, 0, a, -1), true)
	for _, who := range []int{0, 2, 3} {
		hears(t, s, prevote(0, who, a), true)
	}
	stands(t, s, 0, 3, none, -1, a, 0)
	over(t, s, 6, 0, api.Act{Kind: 1, Round: 1, Value: a, Valid: 0})

	s = four(t) // what is not good is neither
	hears(t, s, proposal(0, 0, a, -1), false, act(2, 0, none))
	hears(t, s, prevote(0, 0, a), true)
	hears(t, s, prevote(0, 2, a), true)
	hears(t, s, prevote(0, 3, a), true, timer(5, 0))
	stands(t, s, 0, 2, none, -1, none, -1)
}

func TestQuorumsOfPrecommits(t *testing.T) {
	s := four(t) // enough, in whatever step: a timer, once
	hears(t, s, precommit(0, 0, a), true)
	hears(t, s, precommit(0, 2, b), true)
	hears(t, s, precommit(0, 3, none), true, timer(6, 0))
	hears(t, s, precommit(0, 1, none), true)
	over(t, s, 6, 0, api.Act{Kind: 1, Round: 1, Value: own, Valid: -1})
	hears(t, s, precommit(1, 0, a), true)
	hears(t, s, precommit(1, 2, a), true)
	hears(t, s, precommit(1, 3, a), true, timer(6, 1))      // in the next round once more
	hears(t, s, proposal(1, 1, a, -1), false, act(7, 1, a)) // good or not
	hears(t, s, proposal(0, 0, b, -1), true)                // that is all
	stands(t, s, 1, 1, none, -1, none, -1)

	s = four(t) // of a round that is over, or ahead: the least one counts
	over(t, s, 6, 0, api.Act{Kind: 1, Round: 1, Value: own, Valid: -1})
	for who := range 3 {
		hears(t, s, precommit(0, who, a), true)
	}
	stands(t, s, 1, 1, none, -1, none, -1)
	hears(t, s, proposal(0, 0, a, -1), true, act(7, 0, a))
	if v, ok := s.Decided(); v != a || !ok {
		t.Error(v, ok)
	}

	s = made(t, []uint64{1, 1, 1, 1}, 1, 0)
	for _, r := range []int{5, 3} {
		for who := range 3 {
			hears(t, s, precommit(r, who, b), true)
		}
		hears(t, s, proposal(r, r%4, b, -1), true)
	}
	if l := s.Start(); !slices.Equal(l, []api.Act{timer(4, 0), act(7, 3, b)}) {
		t.Error(l)
	}
	stands(t, s, 0, 1, none, -1, none, -1)

	s = four(t) // a quorum for none decides nothing
	hears(t, s, proposal(0, 0, a, -1), true, act(2, 0, a))
	hears(t, s, precommit(0, 0, none), true)
	hears(t, s, precommit(0, 2, none), true)
	hears(t, s, precommit(0, 3, none), true, timer(6, 0))
	if v, ok := s.Decided(); v != none || ok {
		t.Error(v, ok)
	}
}

func TestSkips(t *testing.T) {
	s := four(t)
	hears(t, s, prevote(3, 0, a), true)
	hears(t, s, precommit(3, 0, a), true) // the same one
	hears(t, s, precommit(2, 2, a), true)
	stands(t, s, 0, 1, none, -1, none, -1)
	hears(t, s, precommit(3, 2, b), true, timer(4, 3))
	stands(t, s, 3, 1, none, -1, none, -1)
	hears(t, s, prevote(2, 0, a), true) // below: nothing
	hears(t, s, prevote(2, 3, a), true)
	stands(t, s, 3, 1, none, -1, none, -1)
	hears(t, s, proposal(5, 1, a, -1), true) // a proposal is heard, too
	hears(t, s, prevote(5, 3, a), true, api.Act{Kind: 1, Round: 5, Value: own, Valid: -1}, act(2, 5, a))

	s = made(t, []uint64{1, 1, 1, 1}, 1, 0) // the greatest one
	for _, r := range []int{60, 40} {
		hears(t, s, prevote(r, 0, a), true)
		hears(t, s, prevote(r, 3, a), true)
	}
	if l := s.Start(); !slices.Equal(l, []api.Act{timer(4, 0), timer(4, 60)}) {
		t.Error(l)
	}

	s = made(t, []uint64{2, 1, 3}, 1, 0) // a third is not more than one
	s.Start()
	hears(t, s, prevote(1, 0, a), true)
	hears(t, s, prevote(2, 2, a), true, timer(4, 2))
	hears(t, s, prevote(3, 0, a), true)
	hears(t, s, prevote(3, 1, a), true, timer(4, 3))
}

// TestOwnAlone: of one alone what it tells is heard by nobody unless it is told.
func TestOwnAlone(t *testing.T) {
	s := made(t, []uint64{5}, 0, 3)
	if l := s.Start(); !slices.Equal(l, []api.Act{{Kind: 1, Round: 0, Value: own, Valid: -1}}) {
		t.Error(l)
	}
	hears(t, s, proposal(0, 0, own, -1), true, act(2, 0, own))
	hears(t, s, prevote(0, 0, own), true, timer(5, 0), act(3, 0, own))
	hears(t, s, precommit(0, 0, own), true, act(7, 0, own))
}
