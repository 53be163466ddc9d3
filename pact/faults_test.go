package pact_test

import (
	"flag"
	"fmt"
	"maps"
	"testing"

	"pact/api"
)

var seeds = flag.Int("seeds", 250, "how many scripts of faults are played")

// mix is how often each kind of step comes in a script.
type mix struct {
	call, round, deliver, late, drop, double, flip, tick, crash, restart, breaks int
}

func mixes() []mix {
	return []mix{
		{call: 20, round: 40},
		{call: 10, round: 20, deliver: 20, drop: 10, double: 10, flip: 5, tick: 10},
		{call: 10, deliver: 200, drop: 5, double: 5, flip: 3, tick: 40, crash: 1, restart: 3},
		{call: 10, deliver: 100, drop: 20, double: 20, flip: 10, tick: 40, crash: 3, restart: 5, breaks: 4},
		{call: 10, round: 30, crash: 3, restart: 6},
		{call: 10, round: 30, drop: 60, crash: 1, restart: 3, breaks: 3},
		{call: 30, round: 30, drop: 5, breaks: 5, restart: 20},
		{call: 10, round: 1, deliver: 100, tick: 60},
		{call: 3, deliver: 100, tick: 20},
		{call: 1, round: 40, crash: 1, restart: 2},
		{call: 5, deliver: 50, late: 50, double: 10, tick: 50, crash: 1, restart: 3, breaks: 2},
		{round: 20, tick: 100, deliver: 100, late: 20},
	}
}

// step: some step of a script of that mix.
func (d *draw) fault(w *watch, m mix) api.Step {
	bag := len(w.x.Bag())
	at := d.next(max(1, bag))
	n := d.next(m.call + m.round + m.deliver + m.late + m.drop + m.double + m.flip + m.tick + m.crash + m.restart + m.breaks)
	in := func(many int) bool {
		n -= many
		return n < 0
	}
	switch {
	case in(m.call):
		return d.clientStep(w)
	case in(m.round):
		return api.Step{Kind: api.Round}
	case in(m.deliver):
		return api.Step{Kind: api.Deliver, A: at % 4}
	case in(m.late):
		return api.Step{Kind: api.Deliver, A: at}
	case in(m.drop):
		return api.Step{Kind: api.Drop, A: at}
	case in(m.double):
		return api.Step{Kind: api.Copy, A: at}
	case in(m.flip):
		return api.Step{Kind: api.Flip, A: at, B: d.next(200)}
	case in(m.tick):
		return api.Step{Kind: api.Tick, A: d.next(w.nodes())}
	case in(m.crash):
		return api.Step{Kind: api.Crash, A: d.next(w.nodes())}
	case in(m.restart):
		return api.Step{Kind: api.Restart, A: d.next(w.nodes())}
	}
	return api.Step{Kind: api.Break, A: at, B: d.next(2)}
}

func (d *draw) clientStep(w *watch) api.Step {
	s := api.Step{Kind: api.Begin, A: d.next(w.c.Clients), B: d.next(api.Keys), C: d.next(1000)}
	if d.next(3) > 0 {
		s.B = d.next(2)
	}
	_, txs := w.busy()
	if _, is := txs[s.A]; is {
		s.Kind = []int{api.Get, api.Get, api.Put, api.Put, api.Commit, api.Commit, api.Abort}[d.next(7)]
	}
	return s
}

func TestFaults(t *testing.T) {
	most := 0
	for seed := range *seeds {
		d := draw(seed*7919 + 3)
		c := api.Config{F: d.next(2), Shards: 1 + d.next(3), Clients: 1 + d.next(3)}
		w := watched(t, fmt.Sprintf("seed %d", seed), c, begun(t, c.F, c.Shards, c.Clients))
		w.close = seed%10 == 0
		w.play(&d)
		w.words(map[int]int{})
		if d.next(3) == 0 {
			reopenFaults(t, w, &d)
		}
		if d.next(4) == 0 {
			w.crashAll()
			if d.next(2) == 0 {
				w.drop(every)
			}
		}
		rounds := w.end(&d)
		most = max(most, rounds)
		words := w.words(map[int]int{})
		w.order()
		if rounds < 0 || w.full {
			continue
		}
		switch d.next(3) {
		case 0:
			w.crashAll()
		case 1:
			w = w.reopen()
		}
		w.calm(&d, words)
	}
	t.Logf("ended within %d Rounds", most)
}

// play plays a script: some time of one mix, then some of another, or some in which a node is cut off.
func (w *watch) play(d *draw) {
	for range 1 + d.next(12) {
		m := mixes()[d.next(len(mixes()))]
		cut, way := d.next(w.nodes()), d.next(9)
		for range d.next(120) {
			w.do(d.fault(w, m))
			if way < 3 {
				w.drop(func(m api.Message) bool { return way != 0 && m.From == cut || way != 1 && m.To == cut })
			}
		}
	}
}

func (w *watch) crashAll() {
	for n := range w.firstClient() {
		w.do(api.Step{Kind: api.Crash, A: n})
	}
	for n := range w.firstClient() {
		w.do(api.Step{Kind: api.Restart, A: n})
	}
}

// reopen: a cluster of what this one has stored. What was told of outcomes goes on holding.
func (w *watch) reopen() *watch {
	y := watched(w.t, w.name+", reopened", w.c, reopened(w.t, w.x, w.c))
	y.outcomes, y.older, y.longest, y.zero, y.asked = maps.Clone(w.outcomes), maps.Clone(w.outcomes), w.longest, maps.Clone(w.zero), maps.Clone(w.asked)
	y.prepare = maps.Clone(w.prepare)
	for group, was := range w.yes {
		y.yes[group] = maps.Clone(was)
	}
	return y
}

// reopenFaults: behind Reopen in the middle of a script a transaction reads just what was committed.
func reopenFaults(t *testing.T, w *watch, d *draw) {
	t.Helper()
	words := w.words(map[int]int{})
	y := w.reopen()
	for range 100 { // till the logs are applied: ahead of that nobody holds a lock, and yet there may be some
		y.do(api.Step{Kind: api.Round})
	}
	y.end(d)
	if y.full || w.full {
		return
	}
	for _, r := range y.decided { // what was open there, and turns out to be committed, left its words
		for _, e := range w.history {
			if w.outcomes[r.Tx] == 0 && r.Outcome == api.Committed && e.Tx == r.Tx && e.Op == api.Put && e.Answer == api.Done {
				words[e.Key] = e.Word
			}
		}
	}
	y.calm(d, words)
}
