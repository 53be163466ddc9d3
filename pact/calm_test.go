package pact_test

import (
	"fmt"
	"maps"
	"slices"
	"testing"

	"pact/api"
)

// servers: the two servers of a key's shard.
func (w *watch) servers(key int) [2]int {
	first := w.firstServer() + 2*(key%w.c.Shards)
	return [2]int{first, first + 1}
}

// within: a client's step, and 60 Rounds; what it is answered.
func (w *watch) within(s api.Step) api.Event {
	w.t.Helper()
	n := len(w.history)
	w.do(s)
	for range 60 {
		w.do(api.Step{Kind: api.Round})
	}
	if len(w.history) != n+2 {
		w.fail("P23: %+v adds %v to History", s, w.history[n:])
	}
	e := w.history[n+1]
	if e.Op != s.Kind || e.Client != s.A {
		w.fail("P23: %+v is answered %+v", s, e)
	}
	return e
}

// put: a Put, with all that P23 says of it.
func (w *watch) put(s api.Step, tx int, words map[int]int) {
	w.t.Helper()
	var was [2]int
	for i, server := range w.servers(s.B) {
		was[i] = len(w.x.Applied(server))
	}
	if e := w.within(s); !w.right(e, s, words) {
		w.fail("P23: %+v is answered %+v", s, e)
	}
	for i, server := range w.servers(s.B) {
		if n := len(w.x.Applied(server)); n <= was[i] {
			w.fail("P23: server %d has applied nothing for %+v: %q", server, s, w.x.Applied(server))
		}
		if held := w.x.Held(server); !slices.Equal(held, []int{tx}) {
			w.fail("P23: at server %d %v hold locks, behind a Put of %d", server, held, tx)
		}
	}
}

// Undisturbed, one at a time: as a plain table of words would.
func TestUndisturbed(t *testing.T) {
	for seed := range 36 {
		d := draw(seed*104729 + 11)
		c := api.Config{F: seed % 2, Shards: 1 + seed/2%3, Clients: 1 + seed/6%3}
		w := watched(t, fmt.Sprintf("seed %d", seed), c, begun(t, c.F, c.Shards, c.Clients))
		words := map[int]int{}
		for range 12 {
			words = w.transaction(&d, words)
		}
		if got := w.words(map[int]int{}); !maps.Equal(got, words) {
			w.fail("P20: by Decided there is %v, want %v", got, words)
		}
		w.order()
	}
}

// transaction runs a transaction alone; what is there behind it.
func (w *watch) transaction(d *draw, words map[int]int) map[int]int {
	w.t.Helper()
	client := d.next(w.c.Clients)
	begin := w.within(call(api.Begin, client))
	if begin.Answer != api.Done {
		w.fail("P23: Begin is answered %+v", begin)
	}
	now := maps.Clone(words)
	for range d.next(5) {
		s := call(api.Get+d.next(2), client, d.next(api.Keys), d.next(1000))
		if s.Kind == api.Put {
			w.put(s, begin.Tx, now)
			continue
		}
		if e := w.within(s); !w.right(e, s, now) {
			w.fail("P23: %+v is answered %+v, with %v", s, e, now)
		}
	}
	kind, want := api.Commit, api.Committed
	if d.next(4) == 0 {
		kind, want, now = api.Abort, api.Aborted, words
	}
	if e := w.within(call(kind, client)); e.Answer != want {
		w.fail("P23: the step %d is answered %+v", kind, e)
	}
	list := w.x.Outcomes(w.firstClient() + client)
	if last := list[len(list)-1]; last != (api.Decision{Tx: begin.Tx, Outcome: want}) {
		w.fail("P23: the client tells %v of %d, want %d", list, begin.Tx, want)
	}
	if !w.ended() {
		w.fail("P22: 60 Rounds behind its end something is left of %d", begin.Tx)
	}
	return now
}

// The longest transaction: all keys, each more than once, in all shards.
func TestUndisturbedLongTransaction(t *testing.T) {
	c := api.Config{F: 1, Shards: 3, Clients: 2}
	w := watched(t, "long", c, begun(t, c.F, c.Shards, c.Clients))
	words := map[int]int{}
	w.within(call(api.Begin, 1))
	for n := range 40 {
		w.put(call(api.Put, 1, n%6, n), 5, words)
		if s := call(api.Get, 1, n*5%6); !w.right(w.within(s), s, words) {
			w.fail("P23: a wrong answer to %+v", s)
		}
	}
	if e := w.within(call(api.Commit, 1)); e.Answer != api.Committed {
		w.fail("P23: Commit is answered %+v", e)
	}
	w.within(call(api.Begin, 0))
	for key := range api.Keys {
		if s := call(api.Get, 0, key); !w.right(w.within(s), s, words) {
			w.fail("P23: a wrong answer to %+v", s)
		}
	}
}
