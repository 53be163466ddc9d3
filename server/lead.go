package server

import (
	"pact/api"
	"pact/keep"
	"pact/plan"
	"pact/tally"
)

// ballotStep is by what a node's ballots differ.
const ballotStep = 64

// maxRound is the greatest round of which every node's ballot is one.
const maxRound = api.MaxBallot / ballotStep

// nextBallot makes a ballot that the server has never made and that is above another one; none, if there is none left.
func (s *Server) nextBallot(above int) (int, bool) {
	round := s.round + 1
	if round*ballotStep+s.self <= above {
		round = (above-s.self)/ballotStep + 1
	}
	if round > maxRound {
		return 0, false
	}
	s.round = round
	return round*ballotStep + s.self, true
}

// patience is how many ticks without one that leads the server bears. Three ticks behind standing a leader's first beat is there, and then every other tick one comes; so who has stood has time to lead before the other one stands against it.
func (s *Server) patience() int {
	if s.self < s.other {
		return 5
	}
	return 10
}

// stand asks the acceptors for a promise of a new ballot.
func (t turn) stand() {
	t.follow()
	ballot, is := t.nextBallot(t.seen)
	if !is {
		return
	}
	t.role, t.ballot, t.seen = standing, ballot, ballot
	t.toAcceptors(api.Message{Kind: api.Prepare, Group: t.group, Ballot: ballot})
}

// follow gives up all that a server has begun that stands or leads.
func (s *Server) follow() {
	s.role, s.ballot, s.quiet, s.clock = following, 0, 0, 0
	s.promises, s.promised, s.accepted = tally.Tally[int]{}, keep.Table[int, api.Entry]{}, tally.Tally[int]{}
	s.flight, s.queue, s.heard, s.behind = flight{}, nil, 0, false
	s.seeks, s.rescues = keep.Table[int, seek]{}, keep.Table[string, attempt]{}
}

func (s *Server) hearReject(m api.Message) {
	s.seen = max(s.seen, m.Ballot)
	if s.role != following && m.Ballot > s.ballot {
		s.follow()
	}
}

func (t turn) hearPromise(m api.Message) {
	if t.role != standing || m.Ballot != t.ballot {
		return
	}
	for _, e := range m.List {
		if !t.promised.Has(e.Slot) || t.promised.Get(e.Slot).Ballot < e.Ballot {
			*t.promised.At(e.Slot) = e
		}
	}
	if t.promises.Say(m.Ballot, m.From) >= plan.Majority(t.config) {
		t.lead()
	}
}

// lead begins to lead. The last value that an acceptor has accepted may not be chosen: it is proposed again, ahead of all others.
func (t turn) lead() {
	t.adopt()
	open := t.promised.Get(len(t.log)).Value
	again := t.promised.Has(len(t.log))
	t.promises, t.promised = tally.Tally[int]{}, keep.Table[int, api.Entry]{}
	t.role, t.heard = leading, len(t.log)
	t.beat()
	for _, tx := range t.shard.Open() {
		t.pursue(tx)
	}
	if again {
		t.propose(open)
		return
	}
	t.next()
}

// adopt applies what the promises show to be chosen. Nobody proposes a value for a slot before all slots ahead of it are chosen, by ballots not above its own; so if any acceptor has accepted something in a slot, then all ahead of it are chosen, and as among the promises of any majority the greatest ballot tells. For this to hold a server learns nothing from the other one while it stands or leads: that might be chosen by a greater ballot.
func (t turn) adopt() {
	for len(t.log) <= api.MaxSlot && t.promised.Has(len(t.log)) && t.promised.Has(len(t.log)+1) {
		t.apply(t.promised.Get(len(t.log)).Value)
	}
}

// leadOn is the tick of a leader.
func (t turn) leadOn() {
	t.clock = (t.clock + 1) % questionTicks
	if t.clock%beatTicks == 0 {
		t.beat()
		t.catchUp()
	}
	if t.clock == 0 {
		t.question()
	}
	t.proposeAgain()
	t.seekOn()
}
