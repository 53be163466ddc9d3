package pact_test

import (
	"fmt"
	"slices"
	"strings"
	"testing"

	"pact/api"
	"pact/pact"
)

// writer: a cluster in which client 0 has put 10 under the key 0 and 11 under the key 1, in one transaction, and nothing else has happened.
func writer(t *testing.T, name string, c api.Config) *watch {
	t.Helper()
	w := watched(t, name, c, begun(t, c.F, c.Shards, c.Clients))
	for _, s := range []api.Step{call(api.Begin, 0), call(api.Put, 0, 0, 10), call(api.Put, 0, 1, 11)} {
		if e := w.ask(s); e.Answer != api.Done {
			w.fail("P23: %+v is answered %+v", s, e)
		}
	}
	return w
}

// drop drops the packets that are like that.
func (w *watch) drop(like func(m api.Message) bool) {
	w.t.Helper()
	for i := len(w.x.Bag()) - 1; i >= 0; i-- {
		if m, e := pact.Decode(w.x.Bag()[i]); e == api.OK && like(m) {
			w.do(api.Step{Kind: api.Drop, A: i})
		}
	}
}

// without does Rounds in which such packets are lost.
func (w *watch) without(n int, like func(m api.Message) bool) {
	w.t.Helper()
	for range n {
		w.drop(like)
		w.do(api.Step{Kind: api.Round})
	}
	w.drop(like)
}

// reads: what a transaction of client 0 reads of the keys 0 and 1, -1 for nothing; it must be all or nothing, and as Decided says.
func (w *watch) reads(tx int) {
	w.t.Helper()
	w.ask(call(api.Begin, 0))
	for key := range 2 {
		e := w.ask(call(api.Get, 0, key))
		committed := w.outcomes[tx] == api.Committed
		if committed && (e.Answer != api.Value || e.Word != 10+key) || !committed && e.Answer != api.Absent {
			w.fail("P20: the outcome of %d is %d, and then: %+v", tx, w.outcomes[tx], e)
		}
	}
	if e := w.ask(call(api.Commit, 0)); e.Answer != api.Committed {
		w.fail("P22: Commit: %+v", e)
	}
}

func two() api.Config { return api.Config{F: 1, Shards: 2, Clients: 2} }

// A vote that only one of three acceptors has heard is none.
func TestCommittedNeedsAMajorityInEachShard(t *testing.T) {
	for shard := range 2 {
		w := writer(t, "majority", two())
		w.do(call(api.Commit, 0))
		group := fmt.Sprintf("v4.%d", shard)
		w.without(40, func(m api.Message) bool { return m.Kind == api.Accept && m.Group == group && m.To > 0 })
		if d := w.x.Decided(); len(d) != 0 {
			w.fail("P21: one acceptor has accepted the vote of shard %d, and Decided tells %v", shard, d)
		}
		for n := 3; n < 7; n++ {
			if held := w.x.Held(n); !slices.Equal(held, []int{4}) {
				w.fail("P18: at server %d %v hold locks", n, held)
			}
		}
		d := draw(1)
		w.end(&d)
		w.reads(4)
	}
}

// A vote that all acceptors have accepted stands, if no server has heard of it: who looks for it finds it.
func TestVotesThatNobodyHears(t *testing.T) {
	w := writer(t, "unheard", two())
	w.do(call(api.Commit, 0))
	w.without(40, func(m api.Message) bool { return m.Kind == api.Accepted && strings.HasPrefix(m.Group, "v") })
	if d := w.x.Decided(); len(d) != 0 {
		w.fail("P21: no server knows a vote, and Decided tells %v", d)
	}
	d := draw(1)
	w.end(&d)
	if w.outcomes[4] != api.Committed {
		w.fail("P21: all have voted P, and the outcome is %d", w.outcomes[4])
	}
	w.reads(4)
}

// The servers of a shard that have heard no vote, and crash, find the outcome when all others have ended.
func TestNewLeaderSeeksTheOutcome(t *testing.T) {
	w := writer(t, "new leader", two())
	w.do(call(api.Commit, 0))
	w.without(30, func(m api.Message) bool {
		return m.Kind == api.Accepted && m.To <= 4 && strings.HasPrefix(m.Group, "v")
	})
	if got := w.x.Outcomes(5); len(got) != 1 || len(w.x.Held(5)) > 0 || len(w.x.Outcomes(3)) > 0 {
		w.fail("P21: shard 1 tells %v, shard 0 %v", got, w.x.Outcomes(3))
	}
	w.crashAll()
	d := draw(1)
	w.without(80, none)
	w.end(&d)
	w.reads(4)
}

// What a node has found it has found, if it crashes over it; ahead of that it has found nothing.
func TestFoundAndCrashed(t *testing.T) {
	for b := range 2 {
		w := writer(t, fmt.Sprintf("Break %d", b), api.Config{F: 0, Shards: 1, Clients: 1})
		w.do(call(api.Commit, 0))
		for {
			if m, _ := pact.Decode(w.x.Bag()[0]); m.Kind == api.Accepted && m.Group == "v4.0" {
				break
			}
			w.do(api.Step{Kind: api.Deliver})
		}
		w.do(api.Step{Kind: api.Break, B: b})
		want := []api.Decision{{Tx: 4, Outcome: api.Committed}}[:b]
		if got := w.x.Decided(); !slices.Equal(got, want) || len(w.x.Outcomes(1)) > 0 {
			w.fail("P20: Decided tells %v, want %v", got, want)
		}
		d := draw(1)
		w.end(&d)
		w.reads(4)
	}
}

// A shard that is never asked to prepare does not hold the others up: they vote for it that there shall be no effect, by a ballot of their own.
func TestShardThatDoesNotVote(t *testing.T) {
	for shard := range 2 {
		w := writer(t, "no vote", two())
		w.do(call(api.Commit, 0))
		w.without(200, func(m api.Message) bool { return m.Kind == api.Request && (m.To-3)/2 == shard })
		if w.outcomes[4] != api.Aborted || w.zero[fmt.Sprintf("v4.%d", shard)] != "" || w.zero[fmt.Sprintf("v4.%d", 1-shard)] != "P" {
			w.fail("P21: shard %d was not asked: the outcome is %d, votes %v", shard, w.outcomes[4], w.zero)
		}
		if !w.ended() {
			w.fail("P22: not ended: %s", w.tell())
		}
		for n := range 7 {
			if told := w.x.Outcomes(n); n > 2 && !slices.Equal(told, []api.Decision{{Tx: 4, Outcome: api.Aborted}}) || n < 3 && len(told) > 0 {
				w.fail("P19: node %d tells %v", n, told)
			}
		}
		w.reads(4)
	}
}

// A shard in which the transaction was wounded votes against it, and says so.
func TestShardThatVotesAgainst(t *testing.T) {
	w := watched(t, "against", two(), begun(t, 1, 2, 2))
	w.ask(call(api.Begin, 0))
	w.ask(call(api.Begin, 1))
	w.ask(call(api.Put, 1, 0, 20))
	w.ask(call(api.Put, 1, 1, 21))
	w.ask(call(api.Put, 0, 1, 11))
	if e := w.ask(call(api.Commit, 1)); e.Answer != api.Aborted {
		w.fail("P6: the wounded one is answered %+v", e)
	}
	w.without(30, func(api.Message) bool { return false })
	if w.zero["v5.1"] != "A" || w.outcomes[5] != api.Aborted {
		w.fail("P21: the votes are %v, the outcome is %d", w.zero, w.outcomes[5])
	}
	for _, server := range []int{3, 4} {
		if held := w.x.Held(server); len(held) != 0 {
			w.fail("P22: server %d: %v hold locks", server, held)
		}
	}
	if e := w.ask(call(api.Commit, 0)); e.Answer != api.Committed {
		w.fail("P22: the older one is answered %+v", e)
	}
}

// The servers of a shard vote the same, whichever of them leads.
func TestBothServersVoteTheSame(t *testing.T) {
	for leader := 3; leader <= 4; leader++ {
		w := writer(t, "both", two())
		w.do(call(api.Commit, 0))
		w.without(8, func(m api.Message) bool { return m.Kind == api.Accepted && m.Group == "v4.0" })
		for n := 3; n <= 4; n++ { // both have applied that the transaction is prepared; then one of them alone is there
			if n != leader {
				w.do(api.Step{Kind: api.Crash, A: n})
			}
		}
		voted := 0
		for range 80 {
			for _, s := range w.x.Bag() {
				if m, e := pact.Decode(s); e == api.OK && m.Kind == api.Accept && m.Group == "v4.0" && m.From == leader && m.Ballot == 0 {
					voted++
				}
			}
			w.without(1, func(m api.Message) bool { return m.Kind == api.Accepted && m.Group == "v4.0" })
		}
		if voted == 0 && leader == 4 || w.zero["v4.0"] != "P" {
			w.fail("P21: server %d has not voted: %v", leader, w.zero)
		}
		d := draw(1)
		w.end(&d)
		w.reads(4)
	}
}

// Whoever crashes, whenever: all or nothing.
func TestCrashAtEachRound(t *testing.T) {
	for node := range 7 {
		for at := range 10 {
			w := writer(t, fmt.Sprintf("node %d crashes at %d", node, at), two())
			w.do(call(api.Commit, 0))
			w.without(at, func(api.Message) bool { return false })
			w.do(api.Step{Kind: api.Crash, A: node})
			w.without(30, func(api.Message) bool { return false })
			d := draw(at + 1)
			w.end(&d)
			w.reads(4)
			w.words(map[int]int{})
		}
	}
}

// Whichever packet a node crashes over, ahead of storing or behind it: all or nothing.
func TestBreakOfEachPacket(t *testing.T) {
	for at := range 8 {
		w := writer(t, "", two())
		w.do(call(api.Commit, 0))
		w.without(at, func(api.Message) bool { return false })
		for packet := range w.x.Bag() {
			for b := range 2 {
				w := writer(t, fmt.Sprintf("Break %d of packet %d at %d", b, packet, at), two())
				w.do(call(api.Commit, 0))
				w.without(at, func(api.Message) bool { return false })
				w.do(api.Step{Kind: api.Break, A: packet, B: b})
				d := draw(at + 1)
				w.end(&d)
				w.reads(4)
			}
		}
	}
}

// Whichever packet is lost, spoilt or late: all or nothing.
func TestEachPacketIsLostOrLate(t *testing.T) {
	for at := range 8 {
		w := writer(t, "", two())
		w.do(call(api.Commit, 0))
		w.without(at, func(api.Message) bool { return false })
		for packet, late := range w.x.Bag() {
			for _, kind := range []int{api.Drop, api.Flip} {
				w := writer(t, fmt.Sprintf("step %d of packet %d at %d", kind, packet, at), two())
				w.do(call(api.Commit, 0))
				w.without(at, func(api.Message) bool { return false })
				w.do(api.Step{Kind: kind, A: packet, B: packet})
				d := draw(at + 1)
				w.end(&d)
				w.reads(4)
				m, _ := pact.Decode(late) // it was sent once, and comes now
				w.do(api.Step{Kind: api.Inject, A: m.To, S: late})
				w.end(&d)
				w.calm(&d, w.words(map[int]int{}))
			}
		}
	}
}
