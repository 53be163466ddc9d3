// Package shard: what the values of a shard's log make of it, one after the other: its words, its locks, and what became of its transactions. All that it knows hangs on these values alone, so two servers that have applied the same know the same.
package shard

import (
	"slices"

	"pact/api"
	"pact/keep"
	"pact/lock"
	"pact/plan"
	"pact/talk"
)

// The votes.
const (
	Yes = "P" // the shard is prepared
	No  = "A" // the transaction shall have no effect
)

// deal is what is known of a transaction.
type deal struct {
	puts     keep.Table[int, int] // the words that it will leave, by key
	prepared bool                 // at any time
	shards   int                  // of one that is prepared: those that it has asked, a bit for each
	outcome  int                  // 0 till it has ended here
}

// Call is the last Get or Put of a client.
type Call struct {
	Order        talk.Order
	Answer, Word int // Asked, while it waits for a lock
}

// Shard is a shard.
type Shard struct {
	config api.Config
	number int
	words  keep.Table[int, int] // what was committed, by key
	locks  lock.Table[int]
	deals  keep.Table[int, deal] // by transaction
	calls  keep.Table[int, Call] // by the client's node
}

// New makes a shard whose log is empty.
func New(c api.Config, number int) Shard {
	return Shard{config: c, number: number, locks: lock.New[int](api.MaxLocks)}
}

// Read tells the order that a text is, if it is one for this shard.
func (s *Shard) Read(text string) (talk.Order, bool) {
	o, is := talk.ReadOrder(s.config, text)
	if !is || o.Takes() && plan.ShardOf(s.config, o.Key) != s.number {
		return talk.Order{}, false
	}
	return o, true
}

// Useful says whether an order would do something now.
func (s *Shard) Useful(o talk.Order) bool {
	d := s.deals.Get(o.Tx)
	switch {
	case d.outcome != 0:
		return false
	case o.Takes():
		return o.Seq > s.Call(o.Tx).Order.Seq
	case o.Kind == talk.Prepare:
		return !d.prepared
	case o.Kind == talk.Abort:
		return !d.prepared && s.holds(o.Tx)
	case o.Outcome == api.Committed:
		return d.prepared
	}
	return d.prepared || s.holds(o.Tx)
}

// Call tells the last Get or Put of a transaction's client.
func (s *Shard) Call(tx int) Call { return s.calls.Get(plan.ClientOf(s.config, tx)) }

// Held tells the transactions that hold or await a lock, rising.
func (s *Shard) Held() []int { return s.locks.Owners() }

func (s *Shard) holds(tx int) bool { return slices.Contains(s.locks.Owners(), tx) }

// Running tells the transactions that hold or await a lock and are not prepared, rising.
func (s *Shard) Running() []int {
	return slices.DeleteFunc(s.Held(), func(tx int) bool { return s.deals.Get(tx).prepared })
}

// Open tells the transactions that are prepared and have not ended, rising.
func (s *Shard) Open() []int {
	var list []int
	for tx, d := range s.deals.All() {
		if d.prepared && d.outcome == 0 {
			list = append(list, tx)
		}
	}
	return list
}

// Shards tells of a transaction that is prepared, or was, which shards it has asked, a bit for each; else 0.
func (s *Shard) Shards(tx int) int { return s.deals.Get(tx).shards }

// Vote tells the shard's vote on a transaction; it is empty, as long as the log leaves it open. What it was once it is for ever.
func (s *Shard) Vote(tx int) string {
	switch d := s.deals.Get(tx); {
	case d.prepared:
		return Yes
	case d.outcome != 0:
		return No
	}
	return ""
}
