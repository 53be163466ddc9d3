package server

import (
	"pact/api"
	"pact/plan"
	"pact/shard"
)

// seekTicks is how long a leader waits for the votes on a transaction before it looks for those that it does not know: long enough for another shard to find a new leader and vote. Then it looks again and again; the leaders of different shards do not keep step, lest they hinder each other for ever.
const (
	seekTicks  = 50
	againTicks = 12
	apartTicks = 4
)

// seek is a transaction whose outcome a leader seeks.
type seek struct {
	shards int // that it has asked, a bit for each
	ticks  int
}

// attempt is the attempt to have a vote chosen, whatever it is, by a ballot of this server.
type attempt struct {
	ballot int
	seen   int // the greatest ballot of the vote that it has heard of
	asked  bool
	best   api.Entry // of what the promises show
	any    bool      // whether they show something
}

// seek begins to seek the outcome of a transaction.
func (s *Server) seek(tx, shards int) {
	if !s.seeks.Has(tx) {
		*s.seeks.At(tx) = seek{shards: shards}
	}
}

// seekOn is a tick of a leader for the transactions whose outcomes it seeks.
func (t turn) seekOn() {
	for _, tx := range t.seeks.Keys() {
		k := t.seeks.At(tx)
		k.ticks++
		if late := k.ticks - seekTicks; late < 0 || late%(againTicks+apartTicks*t.number) != 0 {
			continue
		}
		chosen := t.votes.Get(tx).chosen
		for number := range t.config.Shards {
			if k.shards>>number&1 == 1 && chosen[number] == "" {
				t.tryVote(tx, number)
			}
		}
	}
}

// tryVote asks the acceptors for a promise of a new ballot for a vote.
func (t turn) tryVote(tx, number int) {
	group := plan.VoteGroup(tx, number)
	seen := t.rescues.Get(group).seen
	ballot, is := t.nextBallot(seen)
	if !is {
		return
	}
	t.leave(group)
	*t.rescues.At(group) = attempt{ballot: ballot, seen: ballot}
	t.toAcceptors(api.Message{Kind: api.Prepare, Group: group, Ballot: ballot})
}

// leave gives up the attempt to have a vote chosen, if there is one.
func (s *Server) leave(group string) {
	s.promises.Drop(s.rescues.Get(group).ballot)
	s.rescues.Drop(group)
}

// notePromised: an acceptor has promised a ballot for a vote that this server tries to have chosen: the next attempt has a greater one.
func (s *Server) notePromised(m api.Message) {
	if s.rescues.Has(m.Group) {
		r := s.rescues.At(m.Group)
		r.seen = max(r.seen, m.Ballot)
	}
}

// rescue counts a promise for a vote; when there are enough, the vote that may be chosen already is proposed, or else one of this server's own.
func (t turn) rescue(m api.Message, tx, number int) {
	r := t.rescues.Get(m.Group)
	if t.role != leading || r.ballot == 0 || m.Ballot != r.ballot || r.asked {
		return
	}
	for _, e := range m.List {
		if e.Slot == 0 && (!r.any || e.Ballot > r.best.Ballot) {
			r.best, r.any = e, true
		}
	}
	if t.promises.Say(r.ballot, m.From) >= plan.Majority(t.config) {
		t.promises.Drop(r.ballot)
		r.asked = true
		t.toAcceptors(api.Message{Kind: api.Accept, Group: m.Group, Ballot: r.ballot, Value: t.voteFor(r, tx, number)})
	}
	*t.rescues.At(m.Group) = r
}

// voteFor tells the vote to propose. Where nobody has voted yet it is the shard's own, if that is known; a shard that does not vote is taken to refuse.
func (s *Server) voteFor(r attempt, tx, number int) string {
	if r.any {
		return r.best.Value
	}
	if own := s.shard.Vote(tx); number == s.number && own != "" {
		return own
	}
	return shard.No
}
