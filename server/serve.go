package server

import (
	"pact/api"
	"pact/plan"
	"pact/talk"
)

// questionTicks is how often a leader asks clients whether they still run what holds locks.
const questionTicks = 8

// serve deals with a client's request. The leader alone does: clients ask both servers, and ask again.
func (t turn) serve(m api.Message) {
	o, is := t.shard.Read(m.Value)
	if t.role != leading || !is || o.Kind == talk.End || o.Seq != m.Slot || m.From != plan.ClientOf(t.config, o.Tx) {
		return
	}
	switch {
	case t.outcomes.Has(o.Tx):
		t.tellOutcome(o.Tx)
		if o.Kind == talk.Prepare { // the other shards may wait for this one's vote
			t.castVote(o.Tx)
		}
	case o.Takes():
		t.serveCall(o)
	case o.Kind == talk.Prepare && t.isFull():
		t.seek(o.Tx, o.Shards)
	default:
		t.want(o)
	}
}

// serveCall deals with a Get or Put. A log that is full stays so: what is refused then, a late packet cannot bring about.
func (t turn) serveCall(o talk.Order) {
	last := t.shard.Call(o.Tx)
	switch {
	case last.Order == o:
		t.tellAnswer(o.Tx)
	case t.isFull() && o.Seq > last.Order.Seq:
		t.tell(o, api.Busy, 0)
	default:
		t.want(o)
	}
}

// tellAnswer tells a client the answer of its last Get or Put, if it is there.
func (t turn) tellAnswer(tx int) {
	if call := t.shard.Call(tx); call.Answer != api.Asked {
		t.tell(call.Order, call.Answer, call.Word)
	}
}

func (t turn) tell(o talk.Order, answer, word int) {
	t.reply(o.Tx, o.Seq, talk.Reply{Kind: talk.Answer, Answer: answer, Word: word})
}

func (t turn) tellOutcome(tx int) {
	t.reply(tx, 0, talk.Reply{Kind: talk.Outcome, Tx: tx, Answer: t.outcomes.Get(tx)})
}

func (t turn) reply(tx, seq int, r talk.Reply) {
	t.to(plan.ClientOf(t.config, tx), api.Message{Kind: api.Reply, Slot: seq, Value: r.Text()})
}

// question asks clients whether they still run the transactions that hold or await locks: a client that has ended one may have told so in vain, or have forgotten it.
func (t turn) question() {
	for _, tx := range t.shard.Running() {
		if !t.outcomes.Has(tx) {
			t.reply(tx, 0, talk.Reply{Kind: talk.Question, Tx: tx})
		}
	}
}
