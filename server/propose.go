package server

import (
	"slices"

	"pact/api"
	"pact/plan"
	"pact/talk"
)

// flightTicks is after how many ticks a value is proposed again to who has not accepted it.
const flightTicks = 4

// flight is the value that is proposed for the next slot, if one is.
type flight struct {
	is    bool
	value string
	ticks int // since it was sent last
}

// propose asks the acceptors to accept a value in the next slot.
func (t turn) propose(value string) {
	if t.isFull() {
		return
	}
	t.flight = flight{is: true, value: value}
	t.sendFlight()
}

// isFull says whether the log has no slot left.
func (s *Server) isFull() bool { return len(s.log) > api.MaxSlot }

// sendFlight sends the proposed value to the acceptors that have not accepted it.
func (t turn) sendFlight() {
	for a := range plan.FirstServer(t.config) {
		if !t.accepted.Has(len(t.log), a) {
			t.to(a, api.Message{Kind: api.Accept, Group: t.group, Ballot: t.ballot, Slot: len(t.log), Value: t.flight.value})
		}
	}
}

// proposeAgain is a tick for the value that is proposed.
func (t turn) proposeAgain() {
	if !t.flight.is {
		return
	}
	if t.flight.ticks++; t.flight.ticks == flightTicks {
		t.flight.ticks = 0
		t.sendFlight()
	}
}

func (t turn) hearAccepted(m api.Message) {
	if t.role != leading || !t.flight.is || m.Ballot != t.ballot || m.Slot != len(t.log) || m.Value != t.flight.value {
		return
	}
	if t.accepted.Say(m.Slot, m.From) < plan.Majority(t.config) {
		return
	}
	t.accepted.Drop(m.Slot)
	t.flight = flight{}
	t.sendChosen(m.Slot, m.Value)
	t.apply(m.Value)
	t.next()
}

func (t turn) sendChosen(slot int, value string) {
	t.to(t.other, api.Message{Kind: api.Chosen, Group: t.group, Slot: slot, Value: value})
}

// apply adds a chosen value to the log, and does what it says. Who leads tells of it; who does not leaves that to the leader.
func (t turn) apply(value string) {
	t.log = append(t.log, value)
	news := t.shard.Apply(value)
	for _, d := range news.Ended {
		t.find(d.Tx, d.Outcome)
	}
	if news.Prepared != 0 {
		t.judge(news.Prepared)
	}
	if t.role != leading {
		return
	}
	for _, tx := range news.Answered {
		t.tellAnswer(tx)
	}
	if news.Prepared != 0 {
		t.pursue(news.Prepared)
	}
}

// next proposes the next order that is of use, if none is proposed: one slot at a time.
func (t turn) next() {
	if t.role != leading || t.flight.is || t.isFull() {
		return
	}
	if text, is := t.pick(); is {
		t.propose(text)
	}
}

// pick tells the next order that is of use: first to end transactions whose outcomes are found, then what was asked.
func (s *Server) pick() (string, bool) {
	for tx, outcome := range s.outcomes.All() {
		if o := (talk.Order{Kind: talk.End, Tx: tx, Outcome: outcome}); s.shard.Useful(o) {
			return o.Text(), true
		}
	}
	for len(s.queue) > 0 {
		text := s.queue[0]
		s.queue = s.queue[1:]
		if o, is := s.shard.Read(text); is && !s.outcomes.Has(o.Tx) && s.shard.Useful(o) {
			return text, true
		}
	}
	return "", false
}

// want lets an order come into the log, if it is not on its way there.
func (t turn) want(o talk.Order) {
	text := o.Text()
	if !t.shard.Useful(o) || t.flight.is && t.flight.value == text || slices.Contains(t.queue, text) {
		return
	}
	t.queue = append(t.queue, text)
	t.next()
}
