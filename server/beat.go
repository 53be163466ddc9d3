package server

import "pact/api"

// beatTicks is how often a leader beats.
const beatTicks = 2

// maxCatchUp is how many values a leader sends the other server at most with a beat.
const maxCatchUp = 30

// beat tells the other server that this one leads.
func (t turn) beat() { t.sendBeat(t.ballot) }

// sendBeat tells how many values the server has applied. (A full log has one more than a beat can tell.)
func (t turn) sendBeat(ballot int) {
	t.to(t.other, api.Message{Kind: api.Beat, Group: t.group, Ballot: ballot, Slot: min(len(t.log), api.MaxSlot)})
}

// catchUp sends values that the other server has not applied, if it has said that there are some.
func (t turn) catchUp() {
	for slot := t.heard; t.behind && slot < min(len(t.log), t.heard+maxCatchUp); slot++ {
		t.sendChosen(slot, t.log[slot])
	}
	t.behind = false
}

// hearOther deals with what the other server has sent.
func (t turn) hearOther(m api.Message) {
	switch {
	case m.Kind == api.Chosen:
		if t.role == following && m.Slot == len(t.log) {
			t.apply(m.Value)
		}
	case m.Ballot%ballotStep == t.other:
		t.hearLeader(m)
	case t.role == leading && m.Ballot == t.ballot:
		t.heard, t.behind = m.Slot, true
	}
}

// hearLeader: the other server leads. Who has a greater ballot does not follow it; who has none does, by whatever ballot: if that one is too low, the acceptors will tell the leader.
func (t turn) hearLeader(m api.Message) {
	if t.role != following && m.Ballot < t.ballot {
		return
	}
	t.follow()
	t.seen = max(t.seen, m.Ballot)
	t.sendBeat(m.Ballot)
}
