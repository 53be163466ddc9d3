package shard

import (
	"pact/api"
	"pact/lock"
	"pact/plan"
	"pact/talk"
)

// News is what a value of the log has brought about.
type News struct {
	Answered []int          // transactions whose clients' last calls have their answers now
	Prepared int            // a transaction that is prepared now
	Ended    []api.Decision // transactions that have ended now
}

// work is the applying of one value.
type work struct {
	*Shard
	news News
}

// Apply does what a value of the log says; a value that says nothing to this shard does nothing.
func (s *Shard) Apply(value string) News {
	w := &work{Shard: s}
	o, is := s.Read(value)
	if is && s.Useful(o) {
		w.do(o)
	}
	return w.news
}

func (w *work) do(o talk.Order) {
	switch o.Kind {
	case talk.Get, talk.Put:
		w.take(o)
	case talk.Prepare:
		w.prepare(o)
	case talk.Abort:
		w.finish(o.Tx, api.Aborted)
	case talk.End:
		w.finish(o.Tx, o.Outcome)
	}
}

// take asks for a lock; who is wounded by that has ended.
func (w *work) take(o talk.Order) {
	*w.calls.At(plan.ClientOf(w.config, o.Tx)) = Call{Order: o}
	if w.deals.Get(o.Tx).prepared { // one that is prepared takes no lock, lest circles of waits come about
		w.answer(o.Tx, api.Busy, 0)
		return
	}
	got, wounded, others := w.locks.Take(o.Tx, o.Key, o.Kind == talk.Put)
	for _, tx := range wounded {
		w.end(tx, api.Aborted)
	}
	w.grant(others)
	switch got {
	case api.Granted:
		w.carryOut(o.Tx)
	case api.Waiting:
	default:
		w.answer(o.Tx, api.Busy, 0)
	}
}

// prepare: from then on the shard's vote stands. One that waits for a lock cannot be prepared.
func (w *work) prepare(o talk.Order) {
	if w.locks.Awaits(o.Tx) {
		w.finish(o.Tx, api.Aborted)
		return
	}
	d := w.deals.At(o.Tx)
	d.prepared, d.shards = true, o.Shards
	w.locks.Hold(o.Tx)
	w.news.Prepared = o.Tx
}

// finish ends a transaction: its words are left behind, if it is committed; and its locks are free.
func (w *work) finish(tx, outcome int) {
	if outcome == api.Committed {
		d := w.deals.Get(tx)
		for key, word := range d.puts.All() {
			*w.words.At(key) = word
		}
	}
	w.end(tx, outcome)
	w.grant(w.locks.Free(tx))
}

// end notes that a transaction has ended. Its puts have no further use.
func (w *work) end(tx, outcome int) {
	was := w.deals.Get(tx)
	*w.deals.At(tx) = deal{prepared: was.prepared, shards: was.shards, outcome: outcome}
	w.news.Ended = append(w.news.Ended, api.Decision{Tx: tx, Outcome: outcome})
}

func (w *work) grant(list []lock.Grant[int]) {
	for _, g := range list {
		w.carryOut(g.Tx)
	}
}

// carryOut does the call of a transaction that has its lock now. A transaction that its client has forgotten has no call any more.
func (w *work) carryOut(tx int) {
	call := w.Call(tx)
	if call.Order.Tx != tx || call.Answer != api.Asked {
		return
	}
	if call.Order.Kind == talk.Put {
		*w.deals.At(tx).puts.At(call.Order.Key) = call.Order.Word
		w.answer(tx, api.Done, 0)
		return
	}
	d := w.deals.Get(tx)
	switch key := call.Order.Key; {
	case d.puts.Has(key):
		w.answer(tx, api.Value, d.puts.Get(key))
	case w.words.Has(key):
		w.answer(tx, api.Value, w.words.Get(key))
	default:
		w.answer(tx, api.Absent, 0)
	}
}

func (w *work) answer(tx, answer, word int) {
	call := w.calls.At(plan.ClientOf(w.config, tx))
	call.Answer, call.Word = answer, word
	w.news.Answered = append(w.news.Answered, tx)
}
