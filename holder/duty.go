package holder

import (
	"iter"
	"slices"

	"sortition/api"
	"sortition/epoch"
	"sortition/share"
)

// Phases in which there is something to be told.
const (
	acking    = 2
	opening   = 3
	revealing = 4
	ended     = 5
)

// duties tells what is to be told in a phase.
func (h *Holder) duties(s *epoch.State, phase int) iter.Seq[api.Tx] {
	switch phase {
	case acking:
		return h.acks(s)
	case opening:
		return h.opens(s)
	case revealing:
		return chain(h.reveals(s), h.posts(s))
	case ended:
		return h.posts(s)
	}
	return chain()
}

// chain tells what some tell, one behind the other.
func chain(l ...iter.Seq[api.Tx]) iter.Seq[api.Tx] {
	return func(yield func(api.Tx) bool) {
		for _, tells := range l {
			for t := range tells {
				if !yield(t) {
					return
				}
			}
		}
	}
}

// right is the share that it holds of a dealer for a slot, if it holds one that is right.
func (h *Holder) right(s *epoch.State, dealer, slot int) (api.Nat, bool) {
	a, ok := h.held[dealer][slot]
	if !ok || share.Right(h.g, s.Commits(dealer), api.Piece{Slot: slot, Share: a}) != api.OK {
		return api.Nat{}, false
	}
	return a, true
}

// acks tells which dealers it has all from that it should.
func (h *Holder) acks(s *epoch.State) iter.Seq[api.Tx] {
	return func(yield func(api.Tx) bool) {
		for dealer := range h.n {
			if h.content(s, dealer) && !yield(api.Tx{Kind: api.TxAck, From: h.me, Dealer: dealer}) {
				return
			}
		}
	}
}

// content tells whether an Ack is due: all shares are held, and are right (who has not dealt has none), and a slot is not covered yet.
func (h *Holder) content(s *epoch.State, dealer int) bool {
	lacks := func(slot int) bool {
		_, ok := h.right(s, dealer, slot)
		return !ok
	}
	open := func(slot int) bool { return !s.Covered(dealer, slot) }
	return slices.ContainsFunc(h.mine, open) && !slices.ContainsFunc(h.mine, lacks)
}

// bound tells whether its Deal was accepted as it was dealt.
func (h *Holder) bound(s *epoch.State) bool {
	return h.dealt() && slices.Equal(s.Commits(h.me), h.commits)
}

// opens tells its shares of slots that nobody acked.
func (h *Holder) opens(s *epoch.State) iter.Seq[api.Tx] {
	return func(yield func(api.Tx) bool) {
		if !h.bound(s) {
			return
		}
		for slot, a := range h.shares {
			if !s.Covered(h.me, slot) && !yield(api.Tx{Kind: api.TxOpen, From: h.me, Slot: slot, Value: a}) {
				return
			}
		}
	}
}

// reveals tells its secret.
func (h *Holder) reveals(s *epoch.State) iter.Seq[api.Tx] {
	return func(yield func(api.Tx) bool) {
		if h.bound(s) && slices.Contains(s.Qualified(), h.me) && !s.Revealed(h.me) {
			yield(api.Tx{Kind: api.TxReveal, From: h.me, Value: h.secret})
		}
	}
}

// posts tells shares of secrets that nobody knows yet.
func (h *Holder) posts(s *epoch.State) iter.Seq[api.Tx] {
	return func(yield func(api.Tx) bool) {
		for _, dealer := range s.Qualified() {
			if _, known := s.Secret(dealer); known || dealer == h.me {
				continue
			}
			for _, slot := range h.mine {
				a, ok := h.right(s, dealer, slot)
				if ok && !yield(api.Tx{Kind: api.TxPost, From: h.me, Dealer: dealer, Slot: slot, Value: a}) {
					return
				}
			}
		}
	}
}
