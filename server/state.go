package server

import (
	"cmp"

	"pact/api"
	"pact/record"
	"pact/tally"
)

// State tells all that the server knows: in a fixed order, and ahead of each list how long it is, so that different knowledge has different texts. (What the shard knows the log tells.)
func (s *Server) State() string {
	var w record.Writer
	w.Numbers(s.round, s.role, s.ballot, s.seen, s.quiet, s.clock, s.heard)
	w.Flag(s.behind)
	w.Texts(s.log)
	w.Texts(s.queue)
	w.Flag(s.flight.is)
	w.Text(s.flight.value)
	w.Number(s.flight.ticks)
	for _, t := range []tally.Tally[int]{s.promises, s.accepted} {
		tellTally(&w, t, w.Number)
	}
	w.Number(len(s.promised.Keys()))
	for _, e := range s.promised.All() {
		tellEntry(&w, e)
	}
	s.tellVotes(&w)
	return w.String()
}

// tellVotes tells what the server knows of votes and outcomes.
func (s *Server) tellVotes(w *record.Writer) {
	w.Number(len(s.seeks.Keys()))
	for tx, k := range s.seeks.All() {
		w.Numbers(tx, k.shards, k.ticks)
	}
	w.Number(len(s.rescues.Keys()))
	for group, r := range s.rescues.All() {
		w.Text(group)
		w.Numbers(r.ballot, r.seen)
		w.Flag(r.asked)
		w.Flag(r.any)
		tellEntry(w, r.best)
	}
	w.Number(len(s.votes.Keys()))
	for tx, b := range s.votes.All() {
		w.Number(tx)
		tellTally(w, b.said, w.Text)
		w.Texts(b.chosen[:])
	}
	w.Number(len(s.outcomes.Keys()))
	for tx, outcome := range s.outcomes.All() {
		w.Numbers(tx, outcome)
	}
}

// tellTally tells who has said what; how to tell what is said hangs on its kind.
func tellTally[K cmp.Ordered](w *record.Writer, t tally.Tally[K], tell func(K)) {
	for what, who := range t.All() {
		tell(what)
		w.Number(who)
	}
	w.Text("")
}

func tellEntry(w *record.Writer, e api.Entry) {
	w.Numbers(e.Slot, e.Ballot)
	w.Text(e.Value)
}
