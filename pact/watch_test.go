package pact_test

import (
	"fmt"
	"maps"
	"slices"
	"strings"
	"testing"

	"pact/api"
	"pact/pact"
)

// watch is a cluster that is looked at behind each step, with what was told before.
type watch struct {
	t    *testing.T
	name string
	x    *pact.Cluster
	c    api.Config

	down     []bool
	longest  [api.MaxShards][]string // what a server of the shard has applied, at any time
	last     [][]string              // what each server has applied, as long as it is up
	outcomes map[int]int             // told by any node at any time
	older    map[int]int             // outcomes that are from ahead of Reopen
	decided  []api.Decision
	history  []api.Event
	asked    map[int]int // by transaction: the shards, a bit for each

	packets map[string]bool
	zero    map[string]string         // by vote: what was voted by the ballot 0
	yes     map[string]map[int]uint64 // by vote and ballot: who has accepted P
	prepare map[string]bool           // the ballots that were prepared, by group
	full    bool                      // whether a bag or log was full
	close   bool                      // whether to look at the states too
}

func watched(t *testing.T, name string, c api.Config, x *pact.Cluster) *watch {
	w := &watch{t: t, name: name, x: x, c: c, outcomes: map[int]int{}, older: map[int]int{}, asked: map[int]int{}, packets: map[string]bool{}, zero: map[string]string{}, yes: map[string]map[int]uint64{}, prepare: map[string]bool{}}
	w.down = make([]bool, w.nodes())
	w.last = make([][]string, w.nodes())
	return w
}

func (w *watch) firstServer() int { return 2*w.c.F + 1 }
func (w *watch) firstClient() int { return w.firstServer() + 2*w.c.Shards }
func (w *watch) nodes() int       { return w.firstClient() + w.c.Clients }

func (w *watch) fail(form string, list ...any) {
	w.t.Helper()
	w.t.Fatalf(w.name+": "+form, list...)
}

// do does a step, and looks at all that the cluster tells.
func (w *watch) do(s api.Step) {
	w.t.Helper()
	if (s.Kind == api.Crash || s.Kind == api.Restart) && s.A >= 0 && s.A < w.firstClient() {
		w.down[s.A] = s.Kind == api.Crash
		if w.down[s.A] {
			w.last[s.A] = nil
		}
	}
	if s.Kind == api.Break {
		if bag := w.x.Bag(); s.A >= 0 && s.A < len(bag) {
			if m, e := pact.Decode(bag[s.A]); e == api.OK && m.To < w.firstClient() {
				w.down[m.To], w.last[m.To] = true, nil
			}
		}
	}
	if w.close {
		w.lookAtStates(s)
	} else {
		w.x.Do(s)
	}
	w.lookAtPackets()
	w.lookAtLogs()
	w.lookAtHistory()
	w.lookAtOutcomes()
}

// lookAtStates does a step, and holds that nodes share nothing: only the one knows something new to which something has happened; and that what is no message changes none.
func (w *watch) lookAtStates(s api.Step) {
	w.t.Helper()
	who := -1
	bag := w.x.Bag()
	switch {
	case s.Kind <= api.Abort:
		who = w.firstClient() + s.A
	case s.Kind == api.Tick || s.Kind == api.Crash || s.Kind == api.Restart:
		who = s.A
	case s.Kind == api.Round:
		w.x.Do(s)
		return
	case (s.Kind == api.Deliver || s.Kind == api.Break) && s.A < len(bag):
		if m, e := pact.Decode(bag[s.A]); e == api.OK {
			who = m.To
		}
	}
	var was []string
	for n := range w.nodes() {
		was = append(was, w.x.State(n))
	}
	w.x.Do(s)
	for n := range w.nodes() {
		if n != who && w.x.State(n) != was[n] {
			w.fail("P12: %+v of %q: node %d knows %s, and knew %s", s, bag, n, w.x.State(n), was[n])
		}
	}
}

func (w *watch) lookAtPackets() {
	w.t.Helper()
	bag := w.x.Bag()
	w.full = w.full || len(bag) >= api.MaxBag
	for _, s := range bag {
		if w.packets[s] {
			continue
		}
		w.packets[s] = true
		if m, e := pact.Decode(s); e == api.OK {
			w.lookAtMessage(m)
		}
	}
}

func (w *watch) lookAtMessage(m api.Message) {
	w.t.Helper()
	vote := strings.HasPrefix(m.Group, "v")
	switch {
	case m.Kind == api.Prepare:
		own := fmt.Sprint(m.Ballot)
		if m.Ballot < 64 || m.Ballot%64 != m.From || w.prepare[own] && !w.prepare[own+m.Group] {
			w.fail("Ballots: node %d prepares %d for %s", m.From, m.Ballot, m.Group)
		}
		w.prepare[own], w.prepare[own+m.Group] = true, true
	case m.Kind == api.Accept && vote && m.Ballot == 0:
		if was, is := w.zero[m.Group]; is && was != m.Value {
			w.fail("P21: of %s there are the votes %s and %s", m.Group, was, m.Value)
		}
		w.zero[m.Group] = m.Value
		var tx, shard int
		fmt.Sscanf(m.Group, "v%d.%d", &tx, &shard)
		if (m.From-w.firstServer())/2 != shard {
			w.fail("P21: node %d votes in %s", m.From, m.Group)
		}
	case m.Kind == api.Accepted && vote && m.Value == "P":
		if w.yes[m.Group] == nil {
			w.yes[m.Group] = map[int]uint64{}
		}
		w.yes[m.Group][m.Ballot] |= 1 << m.From
	}
}

func begins(long, short []string) bool {
	return len(short) <= len(long) && slices.Equal(long[:len(short)], short)
}

func (w *watch) lookAtLogs() {
	w.t.Helper()
	for n := w.firstServer(); n < w.firstClient(); n++ {
		shard := (n - w.firstServer()) / 2
		log := w.x.Applied(n)
		w.full = w.full || len(log) > api.MaxSlot
		if w.down[n] && len(log) > 0 {
			w.fail("P13: server %d is down, and has applied %q", n, log)
		}
		if !begins(log, w.last[n]) {
			w.fail("P18: server %d has applied %q, and then %q", n, w.last[n], log)
		}
		w.last[n] = log
		if !begins(w.longest[shard], log) && !begins(log, w.longest[shard]) {
			w.fail("P18: server %d has applied %q, one of its shard %q", n, log, w.longest[shard])
		}
		if len(log) > len(w.longest[shard]) {
			w.longest[shard] = log
		}
		if held := w.x.Held(n); !slices.IsSorted(held) || len(slices.Compact(slices.Clone(held))) != len(held) {
			w.fail("P18: server %d: Held tells %v", n, held)
		}
	}
}

func (w *watch) lookAtHistory() {
	w.t.Helper()
	h := w.x.History()
	if len(h) < len(w.history) || !slices.Equal(h[:len(w.history)], w.history) {
		w.fail("P11: History was %v, and is %v", w.history, h)
	}
	for _, e := range h[len(w.history):] {
		if e.Op == api.Get || e.Op == api.Put {
			w.asked[e.Tx] |= 1 << (e.Key % w.c.Shards)
		}
	}
	w.history = h
}

func (w *watch) lookAtOutcomes() {
	w.t.Helper()
	d := w.x.Decided()
	if len(d) < len(w.decided) || !slices.Equal(d[:len(w.decided)], w.decided) {
		w.fail("P20: Decided was %v, and is %v", w.decided, d)
	}
	was := len(w.decided)
	w.decided = d
	told := map[int]int{}
	for _, r := range d {
		if told[r.Tx] != 0 {
			w.fail("P20: Decided tells %d twice: %v", r.Tx, d)
		}
		told[r.Tx] = r.Outcome
	}
	for _, r := range d[was:] {
		w.note(r)
		if r.Outcome == api.Committed && w.older[r.Tx] == 0 {
			w.lookAtVotes(r.Tx)
		}
	}
	for n := range w.nodes() {
		list := w.x.Outcomes(n)
		for i, r := range list {
			if i > 0 && list[i-1].Tx >= r.Tx || told[r.Tx] != r.Outcome {
				w.fail("P19: node %d tells %v, and Decided %v", n, list, d)
			}
			w.note(r)
		}
	}
}

func (w *watch) note(r api.Decision) {
	w.t.Helper()
	if was := w.outcomes[r.Tx]; was != 0 && was != r.Outcome || r.Outcome != api.Committed && r.Outcome != api.Aborted {
		w.fail("P19: the outcome of %d is %d, and was %d", r.Tx, r.Outcome, was)
	}
	w.outcomes[r.Tx] = r.Outcome
}

// lookAtVotes: of a transaction that is committed a majority has accepted P by one ballot, in each shard that was asked.
func (w *watch) lookAtVotes(tx int) {
	w.t.Helper()
	for shard := range w.c.Shards {
		if w.asked[tx]>>shard&1 == 0 {
			continue
		}
		most := 0
		for _, who := range w.yes[fmt.Sprintf("v%d.%d", tx, shard)] {
			n := 0
			for a := range 2*w.c.F + 1 {
				n += int(who >> a & 1)
			}
			most = max(most, n)
		}
		if most <= w.c.F {
			w.fail("P21: %d is committed, and %d have accepted P in the vote of shard %d", tx, most, shard)
		}
	}
}

// words: what is there when the committed transactions have run one after the other. Each Get must have been answered so.
func (w *watch) words(words map[int]int) map[int]int {
	w.t.Helper()
	for _, d := range w.decided {
		if d.Outcome != api.Committed {
			continue
		}
		for _, e := range w.history {
			switch {
			case e.Tx != d.Tx:
			case e.Answer == api.Aborted:
				w.fail("P20: %d is committed, and was answered Aborted", d.Tx)
			case e.Op == api.Put && e.Answer == api.Done:
				words[e.Key] = e.Word
			case e.Op == api.Get && (e.Answer == api.Value || e.Answer == api.Absent):
				if word, is := words[e.Key]; is != (e.Answer == api.Value) || word != e.Word {
					w.fail("P20: %+v, and before it there is %d, %v: Decided %v, History %v", e, word, is, w.decided, w.history)
				}
			}
		}
	}
	return words
}

// order: one that was answered Committed before another began stands ahead of it.
func (w *watch) order() {
	w.t.Helper()
	place := map[int]int{}
	for i, d := range w.decided {
		place[d.Tx] = i
	}
	last := -1
	for _, e := range w.history {
		if e.Answer == api.Committed {
			last = max(last, place[e.Tx])
		}
		if at, is := place[e.Tx]; is && e.Op == api.Begin && e.Answer == api.Asked && w.outcomes[e.Tx] == api.Committed && at < last {
			w.fail("P20: %d began behind one that stands behind it: %v", e.Tx, w.decided)
		}
	}
}

// busy: the clients that have a call, and those that have a transaction.
func (w *watch) busy() (calls, txs map[int]int) {
	calls, txs = map[int]int{}, map[int]int{}
	for _, e := range w.history {
		switch {
		case e.Answer == api.Asked:
			calls[e.Client], txs[e.Client] = e.Op, e.Tx
		case e.Answer == api.Aborted || e.Answer == api.Committed:
			delete(txs, e.Client)
			delete(calls, e.Client)
		default:
			delete(calls, e.Client)
		}
	}
	return calls, txs
}

// ended: whether all has ended, as P22 has it.
func (w *watch) ended() bool {
	calls, txs := w.busy()
	if len(calls)+len(txs) > 0 {
		return false
	}
	for n := w.firstServer(); n < w.firstClient(); n += 2 {
		if len(w.x.Held(n))+len(w.x.Held(n+1)) > 0 || !slices.Equal(w.x.Applied(n), w.x.Applied(n+1)) {
			return false
		}
	}
	return true
}

// end lets all end, as P22 has it; how many Rounds that takes. It is no fault, if a log or bag is full.
func (w *watch) end(d *draw) int {
	w.t.Helper()
	for n := range w.firstClient() {
		w.do(api.Step{Kind: api.Restart, A: n})
	}
	for round := range 301 {
		if w.ended() {
			return round
		}
		for client := range w.c.Clients {
			w.do(api.Step{Kind: api.Commit + d.next(2), A: client})
		}
		w.do(api.Step{Kind: api.Round})
	}
	if !w.full {
		w.fail("P22: not ended: %v\n%s", w.history, w.tell())
	}
	return -1
}

// tell: what the nodes tell, for a failing test.
func (w *watch) tell() string {
	s := fmt.Sprint(packets(w.x))
	for n := range w.nodes() {
		s += fmt.Sprintf("\n%d: %s\n  %q %v %v", n, w.x.State(n), w.x.Applied(n), w.x.Held(n), w.x.Outcomes(n))
	}
	return s
}

// ask: a call, and Rounds till it is answered.
func (w *watch) ask(s api.Step) api.Event {
	w.t.Helper()
	n := len(w.history)
	w.do(s)
	for range 300 {
		if len(w.history) >= n+2 {
			return w.history[n+1]
		}
		w.do(api.Step{Kind: api.Round})
	}
	if !w.full {
		w.fail("P22: %+v is not answered: %v\n%s", s, w.history[n:], w.tell())
	}
	return api.Event{}
}

// calm: behind the end each call is answered as a plain table of words would.
func (w *watch) calm(d *draw, words map[int]int) {
	w.t.Helper()
	for range 3 {
		client := d.next(w.c.Clients)
		now := maps.Clone(words)
		first := w.ask(api.Step{Kind: api.Begin, A: client})
		if w.full || first.Answer != api.Done {
			return // the client has begun all that it may
		}
		for range d.next(5) {
			s := api.Step{Kind: api.Get + d.next(2), A: client, B: d.next(api.Keys), C: d.next(1000)}
			if e := w.ask(s); !w.full && !w.right(e, s, now) {
				w.fail("P22: %+v is answered %+v, with %v", s, e, now)
			}
		}
		kind := api.Commit + d.next(2)
		e := w.ask(api.Step{Kind: kind, A: client})
		if w.full {
			return
		}
		if e.Answer != map[int]int{api.Commit: api.Committed, api.Abort: api.Aborted}[kind] {
			w.fail("P22: the step %d is answered %+v\n%s", kind, e, w.tell())
		}
		if kind == api.Commit {
			words = now
		}
		for range 20 {
			w.do(api.Step{Kind: api.Round})
		}
	}
}

// right: whether a Get or Put was answered as a plain table of words would, which has what was put then.
func (w *watch) right(e api.Event, s api.Step, words map[int]int) bool {
	if s.Kind == api.Put {
		words[s.B] = s.C
		return e.Answer == api.Done && e.Word == s.C && e.Key == s.B
	}
	word, is := words[s.B]
	return e.Key == s.B && e.Word == word && (is && e.Answer == api.Value || !is && e.Answer == api.Absent)
}
