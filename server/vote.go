package server

import (
	"strconv"

	"pact/api"
	"pact/plan"
	"pact/shard"
	"pact/tally"
)

// ballots is what is known of the votes on a transaction.
type ballots struct {
	said   tally.Tally[string]   // by shard, ballot and vote: which acceptors have accepted it
	chosen [api.MaxShards]string // by shard; empty, as long as it is not known
}

// pursue is what a leader does for a transaction that is prepared: it votes, and seeks the outcome, if it does not know it.
func (t turn) pursue(tx int) {
	if !t.outcomes.Has(tx) {
		t.seek(tx, t.shard.Shards(tx))
		t.castVote(tx)
	}
}

// castVote asks the acceptors to accept the shard's vote by the ballot 0. As the log tells the vote, both servers cast the same, whenever they do.
func (t turn) castVote(tx int) {
	if vote := t.shard.Vote(tx); vote != "" {
		t.toAcceptors(api.Message{Kind: api.Accept, Group: plan.VoteGroup(tx, t.number), Value: vote})
	}
}

// count notes that an acceptor has accepted a vote.
func (t turn) count(m api.Message, tx, number int) {
	if t.outcomes.Has(tx) || m.Slot != 0 || m.Value != shard.Yes && m.Value != shard.No {
		return
	}
	what := strconv.Itoa(number) + " " + strconv.Itoa(m.Ballot) + " " + m.Value
	b := t.votes.At(tx)
	if b.said.Say(what, m.From) < plan.Majority(t.config) {
		return
	}
	b.chosen[number] = m.Value
	t.leave(m.Group)
	t.judge(tx)
}

// judge finds the outcome of a transaction, if the votes that are known tell it: one No is enough; of Yes there must be one for each shard that the transaction has asked.
func (t turn) judge(tx int) {
	asked := t.shard.Shards(tx)
	all := asked != 0
	for number, vote := range t.votes.Get(tx).chosen {
		if vote == shard.No {
			t.find(tx, api.Aborted)
			return
		}
		all = all && (vote == shard.Yes || asked>>number&1 == 0)
	}
	if all {
		t.find(tx, api.Committed)
	}
}

// find notes the outcome of a transaction; a leader tells the client, and ends the transaction.
func (t turn) find(tx, outcome int) {
	if t.outcomes.Has(tx) {
		return
	}
	*t.outcomes.At(tx) = outcome
	t.found = append(t.found, api.Decision{Tx: tx, Outcome: outcome})
	t.votes.Drop(tx)
	t.seeks.Drop(tx)
	for number := range t.config.Shards {
		t.leave(plan.VoteGroup(tx, number))
	}
	if t.role == leading {
		t.tellOutcome(tx)
		t.next()
	}
}
