package epoch

import (
	"slices"

	"sortition/api"
	"sortition/share"
)

// Apply applies what was decided.
func (s *State) Apply(at int, t api.Tx) api.Errno {
	if !s.fits(t) {
		return api.ErrArg
	}
	phase := s.Phase(at)
	early := t.Kind == api.TxPost && phase == revealing // what is posted need not wait for the end
	if phase != t.Kind && !early {
		return api.ErrPhase
	}
	does := []func(api.Tx) api.Errno{s.deal, s.ack, s.open, s.reveal, s.post}
	return does[t.Kind-1](t)
}

// fits tells whether there is all that a Tx of its kind speaks of.
func (s *State) fits(t api.Tx) bool {
	if t.Kind < api.TxDeal || t.Kind > api.TxPost || !s.there(t.From) {
		return false
	}
	if (t.Kind == api.TxAck || t.Kind == api.TxPost) && !s.there(t.Dealer) {
		return false
	}
	return t.Kind != api.TxOpen && t.Kind != api.TxPost || s.slot(t.Slot)
}

// deal takes a Deal.
func (s *State) deal(t api.Tx) api.Errno {
	d := &s.dealers[t.From]
	switch {
	case s.stakes[t.From] == 0:
		return api.ErrNone
	case s.dealt(t.From) || d.malformed:
		return api.ErrSame
	case len(t.Commits) != s.c.T+1 || !s.members(t.Commits):
		d.malformed = true
		return api.ErrShape
	}
	d.commits = slices.Clone(t.Commits)
	return api.OK
}

// members tells whether all are members of the group.
func (s *State) members(l []api.Nat) bool {
	return !slices.ContainsFunc(l, func(a api.Nat) bool { return !s.g.Member(a) })
}

// ack takes an Ack.
func (s *State) ack(t api.Tx) api.Errno {
	acked := s.dealers[t.Dealer].acked
	switch {
	case !s.dealt(t.Dealer) || s.counts[t.From] == 0:
		return api.ErrNone
	case acked[t.From]:
		return api.ErrSame
	}
	acked[t.From] = true
	return api.OK
}

// right tells whether a Tx's value is the share of a dealer's that its slot has.
func (s *State) right(dealer int, t api.Tx) bool {
	return share.Right(s.g, s.dealers[dealer].commits, api.Piece{Slot: t.Slot, Share: t.Value}) == api.OK
}

// open takes an Open.
func (s *State) open(t api.Tx) api.Errno {
	p := &s.dealers[t.From].places[t.Slot]
	switch {
	case !s.dealt(t.From):
		return api.ErrNone
	case p.opened || p.failed:
		return api.ErrSame
	case !s.right(t.From, t):
		p.failed = true
		return api.ErrShare
	}
	p.opened, p.share = true, t.Value
	return api.OK
}

// reveal takes a Reveal.
func (s *State) reveal(t api.Tx) api.Errno {
	d := &s.dealers[t.From]
	switch {
	case !s.qualified(t.From):
		return api.ErrNone
	case d.revealed:
		return api.ErrSame
	case !share.Opens(s.g, d.commits, t.Value):
		return api.ErrShare
	}
	d.revealed, d.secret = true, t.Value
	return api.OK
}

// post takes a Post.
func (s *State) post(t api.Tx) api.Errno {
	p := &s.dealers[t.Dealer].places[t.Slot]
	switch {
	case !s.qualified(t.Dealer) || s.owners[t.Slot] != t.From:
		return api.ErrNone
	case p.posted || p.opened:
		return api.ErrSame
	case !s.right(t.Dealer, t):
		return api.ErrShare
	}
	p.posted, p.share = true, t.Value
	return api.OK
}
