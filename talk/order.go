package talk

import (
	"pact/api"
	"pact/plan"
)

// The kinds of orders.
const (
	Get     = 1
	Put     = 2
	Prepare = 3 // the transaction shall be committed
	Abort   = 4 // its client runs it no more: of no use against one that is prepared
	End     = 5 // its outcome was found
)

// Order is what a shard is told to do. Clients ask for all but End; it has the same text in a request and in a log.
type Order struct {
	Kind, Tx       int
	Seq, Key, Word int // of Get and Put: the number of the request; the key; and of Put the word
	Shards         int // of Prepare: those that the transaction has asked, a bit for each
	Outcome        int // of End
}

func orderNames() []string { return []string{"", "get", "put", "prepare", "abort", "end"} }

// places tells where the numbers of an order of its kind stand.
func (o *Order) places() []*int {
	switch o.Kind {
	case Get:
		return []*int{&o.Tx, &o.Seq, &o.Key}
	case Put:
		return []*int{&o.Tx, &o.Seq, &o.Key, &o.Word}
	case Prepare:
		return []*int{&o.Tx, &o.Shards}
	case Abort:
		return []*int{&o.Tx}
	case End:
		return []*int{&o.Tx, &o.Outcome}
	}
	return nil
}

// Takes says whether the order is a Get or Put, which takes a lock.
func (o Order) Takes() bool { return o.Kind == Get || o.Kind == Put }

// Text is the order's text.
func (o Order) Text() string { return join(orderNames()[o.Kind], o.places()) }

// ReadOrder tells the order that a text is, if it is one that a cluster can have.
func ReadOrder(c api.Config, text string) (Order, bool) {
	o := Order{Kind: kindOf(text, orderNames())}
	fill(text, o.places())
	if o.Text() != text || !o.fits(c) {
		return Order{}, false
	}
	return o, true
}

func (o Order) fits(c api.Config) bool {
	if !plan.IsTx(c, o.Tx) {
		return false
	}
	switch o.Kind {
	case Get, Put:
		return 1 <= o.Seq && o.Seq <= api.MaxSeq && IsKey(o.Key) && IsWord(o.Word)
	case Prepare:
		return 1 <= o.Shards && o.Shards < 1<<c.Shards
	case End:
		return o.Outcome == api.Committed || o.Outcome == api.Aborted
	}
	return o.Kind == Abort
}

// IsKey says whether there is such a key.
func IsKey(key int) bool { return 0 <= key && key < api.Keys }

// IsWord says whether there is such a word.
func IsWord(word int) bool { return 0 <= word && word <= api.MaxWord }
