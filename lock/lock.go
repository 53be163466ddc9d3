// Package lock: tables of locks to read and to write, whatever kind the keys are of. An older transaction wounds the younger ones that are in its way.
package lock

import (
	"slices"

	"pact/api"
)

// Grant: a transaction that waited has a key's lock now.
type Grant[K comparable] struct {
	Tx  int
	Key K
}

// claim is one lock that a transaction holds, or waits for.
type claim[K comparable] struct {
	tx    int
	key   K
	write bool
}

// against says whether two claims are in each other's way.
func (c claim[K]) against(d claim[K]) bool {
	return c.tx != d.tx && c.key == d.key && (c.write || d.write)
}

// againstAny says whether a claim is in the way of any of these.
func (c claim[K]) againstAny(list []claim[K]) bool {
	return slices.ContainsFunc(list, c.against)
}

// Table is a table of locks.
type Table[K comparable] struct {
	most     int
	held     []claim[K] // of a transaction and a key one alone
	waits    []claim[K] // of a transaction one alone; the oldest first, for in this order they get their locks
	prepared []int      // rising
}

// New makes a table for so many locks, held and waited for.
func New[K comparable](most int) Table[K] {
	return Table[K]{most: most}
}

// Take asks for the lock of a key: the answer, 0 if the transaction waits; the wounded; the others that have got a lock.
func (t *Table[K]) Take(tx int, key K, write bool) (int, []int, []Grant[K]) {
	ask := claim[K]{tx, key, write}
	switch {
	case t.Awaits(tx):
		return 0, nil, nil
	case t.has(ask):
		return api.Granted, nil, nil
	case len(t.held)+len(t.waits) >= t.most:
		return api.Full, nil, nil
	}
	wounded := t.wound(ask)
	t.await(ask)
	got := t.passOn()
	if t.Awaits(tx) {
		return api.Waiting, wounded, got
	}
	own := func(g Grant[K]) bool { return g.Tx == tx }
	return api.Granted, wounded, slices.DeleteFunc(got, own)
}

// Hold makes a transaction prepared, if it does not wait.
func (t *Table[K]) Hold(tx int) {
	at, is := slices.BinarySearch(t.prepared, tx)
	if !is && !t.Awaits(tx) {
		t.prepared = slices.Insert(t.prepared, at, tx)
	}
}

// Free ends all that a transaction holds, awaits and is; who has got a lock by that, in order.
func (t *Table[K]) Free(tx int) []Grant[K] {
	t.strip(tx)
	if at, is := slices.BinarySearch(t.prepared, tx); is {
		t.prepared = slices.Delete(t.prepared, at, at+1)
	}
	return t.passOn()
}

// Owners tells the transactions that hold or await a lock, rising.
func (t *Table[K]) Owners() []int {
	var list []int
	for _, c := range slices.Concat(t.held, t.waits) {
		list = append(list, c.tx)
	}
	slices.Sort(list)
	return slices.Compact(list)
}

// Waits tells who waits for whom, by the first and then by the second.
func (t *Table[K]) Waits() []api.Wait {
	var pairs []api.Wait
	for at, w := range t.waits {
		for _, other := range t.blockers(w, t.waits[:at]) {
			pairs = append(pairs, api.Wait{Tx: w.tx, For: other})
		}
	}
	return pairs
}

// Awaits says whether a transaction waits for a lock.
func (t *Table[K]) Awaits(tx int) bool {
	return slices.ContainsFunc(t.waits, func(w claim[K]) bool { return w.tx == tx })
}

// holding is where the transaction's hold of the key stands, or -1.
func (t *Table[K]) holding(tx int, key K) int {
	return slices.IndexFunc(t.held, func(h claim[K]) bool { return h.tx == tx && h.key == key })
}

// has says whether what is asked for is held, to write or as it is asked for.
func (t *Table[K]) has(ask claim[K]) bool {
	at := t.holding(ask.tx, ask.key)
	return at >= 0 && (t.held[at].write || !ask.write)
}

// wound takes everything from the younger holders in the way that are not prepared; who they are, rising.
func (t *Table[K]) wound(ask claim[K]) []int {
	var wounded []int
	for _, h := range t.held {
		_, prepared := slices.BinarySearch(t.prepared, h.tx)
		if h.tx > ask.tx && h.against(ask) && !prepared {
			wounded = append(wounded, h.tx)
		}
	}
	for _, tx := range wounded {
		t.strip(tx)
	}
	slices.Sort(wounded)
	return wounded
}

// strip takes all locks and the wait from a transaction.
func (t *Table[K]) strip(tx int) {
	own := func(c claim[K]) bool { return c.tx == tx }
	t.held = slices.DeleteFunc(t.held, own)
	t.waits = slices.DeleteFunc(t.waits, own)
}

func (t *Table[K]) await(ask claim[K]) {
	byAge := func(w claim[K], tx int) int { return w.tx - tx }
	at, _ := slices.BinarySearchFunc(t.waits, ask.tx, byAge)
	t.waits = slices.Insert(t.waits, at, ask)
}

// passOn goes once through those that wait: a lock that is given to one can only hinder the younger ones behind it, so none that was passed over could have its lock in a second go.
func (t *Table[K]) passOn() []Grant[K] {
	var got []Grant[K]
	var still []claim[K]
	for _, w := range t.waits {
		if w.againstAny(t.held) || w.againstAny(still) {
			still = append(still, w)
			continue
		}
		t.give(w)
		got = append(got, Grant[K]{w.tx, w.key})
	}
	t.waits = still
	return got
}

// give makes a claim one that is held; a hold to read that is there already becomes it.
func (t *Table[K]) give(c claim[K]) {
	if at := t.holding(c.tx, c.key); at >= 0 {
		t.held[at].write = t.held[at].write || c.write
		return
	}
	t.held = append(t.held, c)
}

// blockers tells whom one waits for, each once and rising: holders, and of the older ones that wait.
func (t *Table[K]) blockers(w claim[K], older []claim[K]) []int {
	var list []int
	for _, c := range slices.Concat(t.held, older) {
		if w.against(c) {
			list = append(list, c.tx)
		}
	}
	slices.Sort(list)
	return slices.Compact(list)
}
