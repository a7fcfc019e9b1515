package round

import (
	"sortition/api"
	"sortition/votes"
)

// rules are all rules, the first ones first: each tells what is to be done, and whether it was followed.
func rules() []func(*State) ([]api.Act, bool) {
	return []func(*State) ([]api.Act, bool){
		(*State).decide,
		(*State).skip,
		(*State).prevoteFirst,
		(*State).prevoteAgain,
		(*State).awaitPrevotes,
		(*State).keep,
		(*State).precommitNone,
		(*State).awaitPrecommits,
	}
}

// decide decides what has a quorum of precommits in whatever round.
func (s *State) decide() ([]api.Act, bool) {
	for round, t := range s.turns {
		if t != nil && t.proposed && quorum(t.precommits, t.proposal.Value) {
			s.decided = held{t.proposal.Value, round}
			return []api.Act{{Kind: api.Decide, Round: round, Value: t.proposal.Value}}, true
		}
	}
	return nil, false
}

// skip goes to a round in which one at least is who follows the rules.
func (s *State) skip() ([]api.Act, bool) {
	for round := last; round > s.round; round-- {
		if t := s.turns[round]; t != nil && votes.More(s.heard(t), s.all) {
			return s.begin(round), true
		}
	}
	return nil, false
}

// prevoteFirst votes for what is proposed for the first time.
func (s *State) prevoteFirst() ([]api.Act, bool) {
	t := s.turn(s.round)
	if s.step != awaits || !t.proposed || t.proposal.Valid >= 0 {
		return nil, false
	}
	return s.choose(t, s.locked.round < 0), true
}

// prevoteAgain votes for what is proposed once more, since it had a quorum.
func (s *State) prevoteAgain() ([]api.Act, bool) {
	t := s.turn(s.round)
	if s.step != awaits || !t.proposed || t.proposal.Valid < 0 {
		return nil, false
	}
	if !quorum(s.turn(t.proposal.Valid).prevotes, t.proposal.Value) {
		return nil, false
	}
	return s.choose(t, s.locked.round <= t.proposal.Valid), true
}

// choose prevotes for a proposal that is good, if who is locked is free to, or it is the value locked; else for none.
func (s *State) choose(t *turn, free bool) []api.Act {
	v := t.proposal.Value
	if t.good && (free || s.locked.value == v) {
		return s.prevote(v)
	}
	return s.prevote(api.Digest{})
}

// awaitPrevotes gives those who have not prevoted some time.
func (s *State) awaitPrevotes() ([]api.Act, bool) {
	if s.step != prevoted || s.prevotesTimed || !s.turn(s.round).prevotes.AnyQuorum() {
		return nil, false
	}
	s.prevotesTimed = true
	return s.timer(prevoteTimer), true
}

// keep holds to what has a quorum of prevotes, and precommits it.
func (s *State) keep() ([]api.Act, bool) {
	t := s.turn(s.round)
	v := t.proposal.Value
	if s.step < prevoted || s.kept || !t.proposed || !t.good || !quorum(t.prevotes, v) {
		return nil, false
	}
	s.kept = true
	s.valid = held{v, s.round}
	if s.step != prevoted {
		return nil, true
	}
	s.locked = s.valid
	return s.precommit(v), true
}

// precommitNone gives up a round in which a quorum is for none.
func (s *State) precommitNone() ([]api.Act, bool) {
	if s.step != prevoted || !quorum(s.turn(s.round).prevotes, api.Digest{}) {
		return nil, false
	}
	return s.precommit(api.Digest{}), true
}

// awaitPrecommits gives those who have not precommitted some time.
func (s *State) awaitPrecommits() ([]api.Act, bool) {
	if s.precommitsTimed || !s.turn(s.round).precommits.AnyQuorum() {
		return nil, false
	}
	s.precommitsTimed = true
	return s.timer(precommitTimer), true
}
