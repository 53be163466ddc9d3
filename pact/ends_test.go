package pact_test

import (
	"fmt"
	"slices"
	"strings"
	"testing"

	"pact/api"
	"pact/pact"
)

func every(api.Message) bool { return true }

func none(api.Message) bool { return false }

// The locks of a transaction that its client has ended are free, if the servers did not hear of that.
func TestAbortThatNobodyHears(t *testing.T) {
	w := writer(t, "unheard", two())
	w.do(call(api.Abort, 0))
	w.drop(every)
	if w.ended() {
		t.Fatal("P18: the locks are free, and no server knows that the transaction has ended")
	}
	d := draw(1)
	if n := w.end(&d); n > 60 {
		w.fail("P22: the locks are free behind %d Rounds", n)
	}
	w.reads(4)
}

// An answer that is lost is told again, of each kind of call.
func TestAnswersThatAreLost(t *testing.T) {
	for lost := 1; lost < 12; lost++ {
		w := watched(t, fmt.Sprintf("%d Rounds without replies", lost), two(), begun(t, 1, 2, 2))
		words := map[int]int{}
		w.ask(call(api.Begin, 0))
		for _, s := range []api.Step{call(api.Put, 0, 0, 5), call(api.Get, 0, 0), call(api.Get, 0, 1), call(api.Put, 0, 1, 6)} {
			n := len(w.history)
			w.do(s)
			w.without(lost, func(m api.Message) bool { return m.Kind == api.Reply })
			w.without(60, none)
			if got := w.history[n:]; len(got) != 2 || !w.right(got[1], s, words) {
				w.fail("P22: %+v is answered %v", s, got)
			}
		}
		w.do(call(api.Commit, 0))
		w.without(lost, func(m api.Message) bool { return m.Kind == api.Reply })
		w.without(60, none)
		if e := w.history[len(w.history)-1]; e.Answer != api.Committed {
			w.fail("P22: Commit is answered %+v", e)
		}
		if got := w.words(map[int]int{}); fmt.Sprint(got) != fmt.Sprint(words) || len(w.x.Applied(3)) != 4 || len(w.x.Applied(5)) != 4 {
			w.fail("P20: there is %v, want %v; the logs are %q, %q", got, words, w.x.Applied(3), w.x.Applied(5))
		}
	}
}

// An old request that comes late, or often, does nothing.
func TestRequestsThatComeLate(t *testing.T) {
	w := watched(t, "late", two(), begun(t, 1, 2, 2))
	var old []string
	note := func(steps ...api.Step) {
		for _, s := range steps {
			n := len(w.history)
			w.do(s)
			for len(w.history) < n+2 {
				for _, p := range w.x.Bag() {
					if m, e := pact.Decode(p); e == api.OK && m.Kind == api.Request {
						old = append(old, p)
					}
				}
				w.do(api.Step{Kind: api.Round})
			}
		}
	}
	note(call(api.Begin, 0), call(api.Put, 0, 0, 1), call(api.Put, 0, 1, 2), call(api.Commit, 0))
	note(call(api.Begin, 0), call(api.Put, 0, 0, 3), call(api.Abort, 0), call(api.Begin, 1), call(api.Get, 1, 0), call(api.Commit, 1))
	w.without(60, none)
	logs := []string{fmt.Sprint(w.x.Applied(3)), fmt.Sprint(w.x.Applied(5))}
	for _, p := range old {
		m, _ := pact.Decode(p)
		w.do(api.Step{Kind: api.Inject, A: m.To, S: p})
	}
	w.without(60, none)
	if got := []string{fmt.Sprint(w.x.Applied(3)), fmt.Sprint(w.x.Applied(5))}; !slices.Equal(got, logs) || len(old) < 10 {
		w.fail("P20: behind %d old requests the logs are %q, were %q", len(old), got, logs)
	}
	if !w.ended() {
		w.fail("P22: old requests have taken locks: %s", w.tell())
	}
}

// What all have stored, at any time, is enough: all or nothing is read then.
func TestReopenAtEachRound(t *testing.T) {
	for at := range 14 {
		for crash := range 2 {
			w := writer(t, fmt.Sprintf("Reopen at %d, %d", at, crash), two())
			w.do(call(api.Commit, 0))
			w.without(at, none)
			y := w
			if crash == 0 {
				y = w.reopen()
			} else {
				w.crashAll()
				w.drop(every)
			}
			y.without(100, none)
			d := draw(1)
			y.end(&d)
			y.reads(4)
			if w.outcomes[4] != 0 && y.outcomes[4] != w.outcomes[4] {
				w.fail("P19: the outcome of 4 is %d, and was %d", y.outcomes[4], w.outcomes[4])
			}
			if crash == 0 && len(y.x.Outcomes(7)) != 1 {
				w.fail("P24: behind Reopen client 0 tells %v", y.x.Outcomes(7))
			}
		}
	}
}

// Behind Reopen nodes know what their texts tell, and nothing else.
func TestReopenForgets(t *testing.T) {
	w := writer(t, "forgets", two())
	w.do(call(api.Commit, 0))
	w.without(60, none)
	y := w.reopen()
	for n := range 9 {
		if len(y.x.Applied(n))+len(y.x.Held(n))+len(y.x.Outcomes(n)) > 0 || y.x.Stored(n) != w.x.Stored(n) {
			t.Errorf("P24: node %d tells %q, %v, %v, and has stored %q", n, y.x.Applied(n), y.x.Held(n), y.x.Outcomes(n), y.x.Stored(n))
		}
	}
	if len(y.x.Bag())+len(y.x.History())+len(y.x.Decided()) > 0 {
		t.Errorf("P24: %q, %v, %v", y.x.Bag(), y.x.History(), y.x.Decided())
	}
	if e := y.ask(call(api.Begin, 0)); e.Tx != 8 {
		t.Errorf("P24: behind one transaction of client 0 there comes %d", e.Tx)
	}
	if e := y.ask(call(api.Begin, 1)); e.Tx != 5 {
		t.Errorf("P24: behind no transaction of client 1 there comes %d", e.Tx)
	}
}

// A server that was down learns what was chosen meanwhile, and forgets it when it crashes.
func TestServerThatWasDown(t *testing.T) {
	for node := 3; node <= 4; node++ {
		w := watched(t, fmt.Sprintf("server %d", node), two(), begun(t, 1, 2, 2))
		w.do(api.Step{Kind: api.Crash, A: node})
		for n := range 20 {
			w.ask(call(api.Begin, 0))
			w.ask(call(api.Put, 0, 0, n))
			if e := w.ask(call(api.Commit, 0)); e.Answer != api.Committed {
				w.fail("P22: with one server Commit is answered %+v", e)
			}
		}
		if len(w.x.Applied(node)) > 0 {
			w.fail("P13: server %d is down, and has applied something", node)
		}
		w.do(api.Step{Kind: api.Restart, A: node})
		w.without(60, none)
		if got := len(w.x.Applied(node)); got != 60 || !w.ended() {
			w.fail("P22: server %d has applied %d values, want 60", node, got)
		}
		w.do(api.Step{Kind: api.Crash, A: node})
		if len(w.x.Applied(node))+len(w.x.Held(node))+len(w.x.Outcomes(node)) > 0 {
			w.fail("P13: server %d has crashed, and knows something", node)
		}
	}
}

// A ballot is never made twice, behind a crash neither: each time that a server stands, it has a greater one.
func TestBallotsBehindCrashes(t *testing.T) {
	x := begun(t, 0, 1, 1)
	last := 0
	for n := range 40 {
		for range 20 {
			do(x, api.Tick, 1, 0)
		}
		for _, s := range x.Bag() {
			m, e := pact.Decode(s)
			if e != api.OK || m.Kind != api.Prepare {
				continue
			}
			if m.From != 1 || m.Ballot%64 != 1 || m.Ballot <= last || m.Group != "s0" {
				t.Fatalf("Ballots: %+v behind the ballot %d", m, last)
			}
			last = m.Ballot
		}
		empty(x)
		do(x, api.Crash, 1, 0)
		do(x, api.Restart, 1, 0)
		if n%10 == 9 {
			x = reopened(t, x, api.Config{Shards: 1, Clients: 1})
		}
	}
	if last < 64*80 {
		t.Errorf("Ballots: the last one is %d", last)
	}
}

// A server whose ballots have run out makes none; the other one goes on.
func TestBallotsRunOut(t *testing.T) {
	x := begun(t, 0, 1, 1)
	stand := func() {
		for range 5 {
			do(x, api.Tick, 1, 0)
		}
	}
	stand()
	holds(t, "Ballots", x, "prepare 1>0 s0 65")
	empty(x)
	inject(t, x, api.Message{Kind: api.Reject, To: 1, Group: "s0", Ballot: api.MaxBallot - 63})
	stand()
	holds(t, "Ballots: the last one", x, fmt.Sprintf("prepare 1>0 s0 %d", api.MaxBallot-62))
	empty(x)
	for range 20 {
		stand()
	}
	holds(t, "Ballots: there is none left", x)
	if c := (api.Config{Shards: 1, Clients: 1}); x.Stored(1) != reopened(t, x, c).Stored(1) {
		t.Errorf("P24: what a server has stored whose ballots have run out is not what it was")
	}
}

// Something of all that nodes deal with, or nearly so.
func (d *draw) junk(c api.Config) api.Message {
	nodes := 2*c.F + 1 + 2*c.Shards + c.Clients
	m := api.Message{Kind: 1 + d.next(9), From: d.next(nodes), To: d.next(nodes)}
	group := []string{"s0", "s1", "v4.0", "v4.1", "v5.0", "v8.2", "v04.0", "v4", "v.", "v4.9", "v202.0", "v99999999.99"}[d.next(12)]
	value := []string{"P", "A", "", "get 4 1 0", "put 4 2 1 7", "put 5 1 0 999", "prepare 4 3", "prepare 5 1", "abort 4", "end 4 6", "end 4 5", "end 5 6", "get 4 1", "get  4 1 0", "put 4 99999 0 0", "answer 1 5", "answer 3 0", "answer 4 0", "outcome 4 6", "outcome 4 5", "outcome 5 5", "question 4", "question 8", "x"}[d.next(24)]
	ballot := []int{0, 64 + d.next(nodes), 128 + d.next(nodes), d.next(64 * 40), api.MaxBallot - d.next(70)}[d.next(5)]
	slot := []int{0, d.next(5), d.next(241)}[d.next(3)]
	switch m.Kind {
	case api.Request, api.Reply:
		m.Slot, m.Value = slot, value
		return m
	case api.Promise:
		for s := range d.next(5) {
			m.List = append(m.List, api.Entry{Slot: s * (1 + d.next(2)) * 3 / 2, Ballot: d.next(200), Value: value})
		}
		slices.SortFunc(m.List, func(a, b api.Entry) int { return a.Slot - b.Slot })
		m.List = slices.CompactFunc(m.List, func(a, b api.Entry) bool { return a.Slot == b.Slot })
	case api.Accept, api.Accepted, api.Chosen:
		m.Slot, m.Value = slot, value
	case api.Beat:
		m.Slot = slot
	}
	m.Group, m.Ballot = group, ballot
	if m.Kind == api.Chosen {
		m.Ballot = 0
	}
	return m
}

// Messages that no node has sent, of all that nodes deal with: no call panics, and each ends.
func TestNodesAtAnything(t *testing.T) {
	for seed := range 60 {
		d := draw(seed*31337 + 1)
		c := api.Config{F: d.next(2), Shards: 1 + d.next(3), Clients: 1 + d.next(3)}
		w := watched(t, "junk", c, begun(t, c.F, c.Shards, c.Clients))
		for range 300 {
			m := d.junk(c)
			w.x.Do(api.Step{Kind: api.Inject, A: m.To, S: encoded(t, m)})
			w.x.Do(d.fault(w, mixes()[d.next(len(mixes()))]))
			if d.next(100) == 0 {
				w.x = reopened(t, w.x, c)
			}
		}
		if was := all(w.x, 13); was != all(w.x, 13) {
			t.Fatalf("P1: what tells something has changed something: %s", was)
		}
		rounds(w.x, 60)
	}
}

// The same script has the same answers, in each run, and at the same time as others.
func TestScriptsHangOnNothingElse(t *testing.T) {
	play := func(seed int) string {
		d := draw(seed*7 + 5)
		w := watched(t, fmt.Sprint("seed ", seed), api.Config{F: 1, Shards: 3, Clients: 3}, begun(t, 1, 3, 3))
		told := ""
		for range 8 {
			w.play(&d)
			told += all(w.x, 12)
		}
		return told
	}
	var want [4]string
	for i := range want {
		want[i] = play(i)
	}
	same := make(chan bool)
	for i := range want {
		go func() { same <- play(i) == want[i] }()
	}
	for range want {
		if !<-same {
			t.Errorf("P2: a script has other answers beside others")
		}
	}
	if strings.Count(want[0], "put") < 10 {
		t.Errorf("the scripts do too little to tell: %s", want[0])
	}
}

// What servers and clients tell is new memory.
func TestNodesAnswerNewMemory(t *testing.T) {
	w := writer(t, "memory", two())
	w.do(call(api.Commit, 0))
	w.without(30, none)
	w.ask(call(api.Begin, 0))
	w.ask(call(api.Put, 0, 0, 1))
	x := w.x
	was := all(x, 9)
	texts := [][]string{}
	for range 2 {
		for n := range 9 {
			texts = append(texts, x.Applied(n), []string{x.State(n)}, []string{x.Stored(n)})
		}
		texts = append(texts, x.Bag())
	}
	flat := slices.Concat(texts...)
	for i, s := range flat {
		for _, other := range flat[:i] {
			if overlap(s, other) {
				t.Fatalf("P2: %q shares memory with another answer", s)
			}
		}
	}
	for _, list := range texts {
		spoil(list, "spoilt")
	}
	for n := range 9 {
		spoil(x.Held(n), 99)
		spoil(x.Outcomes(n), api.Decision{Tx: 99, Outcome: 99})
	}
	spoil(x.History(), api.Event{Tx: 99})
	spoil(x.Decided(), api.Decision{Tx: 99})
	if all(x, 9) != was {
		t.Errorf("P2: what is written into an answer is seen in others: %s, was %s", all(x, 9), was)
	}
	a, b := x.History(), x.History()
	a = append(a[:1], api.Event{Tx: 99})
	if b[1].Tx == 99 || len(a) != 2 {
		t.Errorf("P2: two answers share memory")
	}
}
