package server

import (
	"fmt"
	"slices"
	"strings"
	"testing"

	"pact/api"
)

// fresh: the first server of shard 0; the acceptors are 0 to 2, the other server is 4, the clients are 7 and 8.
func fresh() *Server { return New(api.Config{F: 1, Shards: 2, Clients: 2}, 3) }

func caught(text string) (r any) {
	defer func() { r = recover() }()
	fresh().Load(text)
	return nil
}

func TestStored(t *testing.T) {
	for _, text := range []string{"0", "1", "262143"} {
		s := fresh()
		if s.Load(text); s.Stored() != text || s.State() == fresh().State() != (text == "0") {
			t.Errorf("P24: %q is loaded as %q, with the state %q", text, s.Stored(), s.State())
		}
	}
	if got := fresh().Stored(); got != "0" {
		t.Errorf("P24: a new server has stored %q", got)
	}
	for _, text := range []string{"", "-1", "262144", "x"} {
		if caught(text) == nil {
			t.Errorf("P24: %q is loaded", text)
		}
	}
}

// rig is a server, and what it has sent.
type rig struct {
	t    *testing.T
	s    *Server
	sent []string
}

// send notes a message in short; what goes to all acceptors alike is noted once.
func (r *rig) send(m api.Message) {
	kind := []string{"", "prepare", "promise", "accept", "accepted", "reject", "chosen", "beat", "request", "reply"}[m.Kind]
	to := fmt.Sprint(">", m.To)
	if m.To < 3 {
		to = ""
	}
	text := strings.Join(strings.Fields(fmt.Sprint(kind, to, " ", m.Group, " ", m.Ballot, " #", m.Slot, " ", m.Value)), " ")
	if m.To == 0 || m.To > 2 {
		r.sent = append(r.sent, text)
	}
}

func (r *rig) take(m api.Message) {
	m.To = r.s.self
	r.s.Take(m, r.send)
}

func (r *rig) ticks(n int) {
	for range n {
		r.s.Tick(r.send)
	}
}

// holds: what was sent since it was asked last.
func (r *rig) holds(what string, want ...string) {
	r.t.Helper()
	if !slices.Equal(r.sent, want) {
		r.t.Errorf("%s: sent is %q, want %q", what, r.sent, want)
	}
	r.sent = nil
}

// same: messages that change nothing.
func (r *rig) same(what string, list ...api.Message) {
	r.t.Helper()
	for _, m := range list {
		was := r.s.State()
		if r.take(m); r.s.State() != was || len(r.sent) > 0 {
			r.t.Errorf("%s: %+v changes something: %q\n%s\nwas %s", what, m, r.sent, r.s.State(), was)
		}
		r.sent = nil
	}
}

func promise(from, ballot int, values ...string) api.Message {
	m := api.Message{Kind: api.Promise, From: from, Group: "s0", Ballot: ballot}
	for slot, v := range values {
		m.List = append(m.List, api.Entry{Slot: slot, Ballot: 10 + from, Value: v})
	}
	return m
}

func accepted(from, ballot, slot int, value string) api.Message {
	return api.Message{Kind: api.Accepted, From: from, Group: "s0", Ballot: ballot, Slot: slot, Value: value}
}

func request(value string) api.Message {
	m := api.Message{Kind: api.Request, From: 7, Value: value}
	fmt.Sscanf(value, "put 4 %d", &m.Slot)
	fmt.Sscanf(value, "get 4 %d", &m.Slot)
	return m
}

// leads: a server that leads by the ballot 67 and has applied these values.
func leads(t *testing.T, values ...string) *rig {
	t.Helper()
	r := &rig{t: t, s: fresh()}
	r.ticks(5)
	r.holds("Ballots", "prepare s0 67 #0")
	r.take(promise(0, 67))
	r.holds("P18: one promise is no majority")
	r.take(promise(2, 67))
	r.holds("P18", "beat>4 s0 67 #0")
	for slot, v := range values {
		r.s.queue = append(r.s.queue, v)
		turn{r.s, r.send}.next()
		r.take(accepted(1, 67, slot, v))
		r.take(accepted(2, 67, slot, v))
	}
	r.sent = nil
	return r
}

func TestStands(t *testing.T) {
	r := &rig{t: t, s: fresh()}
	r.ticks(4)
	r.holds("not yet")
	r.ticks(1)
	r.holds("Ballots", "prepare s0 67 #0")
	r.same("no promise of its own", promise(0, 66), promise(0, 131), promise(3, 67), promise(7, 67), promise(63, 67))
	r.take(promise(1, 67))
	r.same("the same once more", promise(1, 67))
	r.ticks(5)
	r.holds("Ballots: never the same twice", "prepare s0 131 #0")
	r.same("too late", promise(0, 67), promise(2, 67))
	r.take(api.Message{Kind: api.Reject, From: 1, Group: "s0", Ballot: 64*9 + 4})
	r.same("it has given up", promise(0, 131), promise(1, 131), promise(2, 131))
	r.ticks(5)
	r.holds("Ballots: a greater one", "prepare s0 643 #0")
	if got := r.s.Stored(); got != "10" {
		t.Errorf("P24: stored is %q", got)
	}
}

// The second server of a shard has more patience; and who hears of a leader stands not at all.
func TestFollows(t *testing.T) {
	r := &rig{t: t, s: New(api.Config{F: 1, Shards: 2, Clients: 2}, 4)}
	r.ticks(9)
	r.holds("not yet")
	r.take(api.Message{Kind: api.Beat, From: 3, Group: "s0", Ballot: 67, Slot: 5})
	r.holds("P18: how many it has applied", "beat>3 s0 67 #0")
	r.ticks(9)
	r.holds("not yet")
	r.ticks(1)
	r.holds("Ballots: above the leader's", "prepare s0 68 #0")
	r.same("a lower leader", api.Message{Kind: api.Beat, From: 3, Group: "s0", Ballot: 67, Slot: 5})
	r.take(api.Message{Kind: api.Beat, From: 3, Group: "s0", Ballot: 131, Slot: 5})
	r.holds("a greater leader", "beat>3 s0 131 #0")
	r.same("not of its shard, or no leader", api.Message{Kind: api.Beat, From: 5, Group: "s0", Ballot: 133}, api.Message{Kind: api.Beat, From: 3, Group: "s1", Ballot: 195}, api.Message{Kind: api.Beat, From: 3, Group: "s0", Ballot: 196})
}

// What the promises show to be chosen is applied; the last value is proposed again.
func TestAdopts(t *testing.T) {
	r := &rig{t: t, s: fresh()}
	r.ticks(5)
	r.take(promise(2, 67, "put 4 1 0 1", "put 4 2 0 2", "put 4 3 0 3"))
	r.sent = nil
	r.take(promise(1, 67, "x", "y"))
	if got := r.s.Applied(); !slices.Equal(got, []string{"put 4 1 0 1", "put 4 2 0 2"}) {
		t.Errorf("P18: applied is %q", got)
	}
	r.holds("P18: nobody is told what was chosen long ago", "beat>4 s0 67 #2", "accept s0 67 #2 put 4 3 0 3")
	r.take(request("get 4 4 0"))
	r.take(accepted(0, 67, 2, "put 4 3 0 3"))
	r.same("no majority", accepted(0, 67, 2, "put 4 3 0 3"), accepted(1, 66, 2, "put 4 3 0 3"), accepted(1, 67, 1, "put 4 3 0 3"), accepted(1, 67, 2, "x"), accepted(4, 67, 2, "put 4 3 0 3"))
	r.holds("P18: one slot at a time")
	r.take(accepted(1, 67, 2, "put 4 3 0 3"))
	r.holds("P18", "chosen>4 s0 0 #2 put 4 3 0 3", "reply>7 0 #3 answer 3 0", "accept s0 67 #3 get 4 4 0")
}

// Of what the acceptors have accepted in a slot, the greatest ballot tells.
func TestAdoptsTheGreatestBallot(t *testing.T) {
	for from, want := range []string{"of 2", "of 2", "of 1"} {
		r := &rig{t: t, s: fresh()}
		r.ticks(5)
		for a := range 3 {
			if a != from {
				r.take(promise(a, 67, fmt.Sprint("of ", a), fmt.Sprint("last of ", a)))
			}
		}
		if got := r.s.Applied(); !slices.Equal(got, []string{want}) || r.s.flight.value != "last "+want {
			t.Errorf("P18: without acceptor %d applied is %q, proposed %q", from, got, r.s.flight.value)
		}
	}
}

// Who stands or leads learns nothing from the other server: that may be chosen by a greater ballot.
func TestLearnsAsItFollows(t *testing.T) {
	chosen := api.Message{Kind: api.Chosen, From: 4, Group: "s0", Value: "put 4 1 0 1"}
	r := &rig{t: t, s: fresh()}
	r.ticks(5)
	r.sent = nil
	r.same("it stands", chosen)
	r.take(promise(0, 67))
	r.take(promise(1, 67))
	r.sent = nil
	r.same("it leads", chosen)
	r.take(api.Message{Kind: api.Reject, From: 1, Group: "s0", Ballot: 68})
	late, foreign := chosen, chosen
	late.Slot, foreign.From = 1, 5
	r.same("it follows: not the next slot, or not of the other server", late, foreign)
	r.take(chosen)
	r.same("it has it", chosen)
	r.holds("P18: who follows tells nobody")
	if got := r.s.Applied(); !slices.Equal(got, []string{"put 4 1 0 1"}) || !slices.Equal(r.s.Held(), []int{4}) {
		t.Errorf("P18: applied is %q, held %v", got, r.s.Held())
	}
}

// A leader beats, sends again what is not accepted, and sends the other server what it lacks.
func TestLeadsOn(t *testing.T) {
	r := leads(t, "put 4 1 0 1", "put 4 2 0 2")
	r.ticks(2)
	r.holds("a beat", "beat>4 s0 67 #2")
	r.take(api.Message{Kind: api.Beat, From: 4, Group: "s0", Ballot: 67, Slot: 1})
	r.ticks(4)
	r.holds("what the other one lacks, once for each of its beats", "beat>4 s0 67 #2", "chosen>4 s0 0 #1 put 4 2 0 2", "beat>4 s0 67 #2")
	r.take(request("put 4 3 0 3"))
	r.take(request("put 4 3 0 3"))
	r.holds("once", "accept s0 67 #2 put 4 3 0 3")
	r.ticks(4)
	r.holds("again", "beat>4 s0 67 #2", "reply>7 0 #0 question 4", "beat>4 s0 67 #2", "accept s0 67 #2 put 4 3 0 3")
	r.take(accepted(0, 67, 2, "put 4 3 0 3"))
	r.take(accepted(1, 67, 2, "put 4 3 0 3"))
	r.holds("P18", "chosen>4 s0 0 #2 put 4 3 0 3", "reply>7 0 #3 answer 3 0")
	r.take(request("put 4 3 0 3"))
	r.holds("P22: an answer that was lost", "reply>7 0 #3 answer 3 0")
	r.same("old ones", request("put 4 2 0 2"), request("put 4 1 0 1"))
	r.same("none", request("end 4 6"), request("x"), request("abort 5"), request("put 4 9 1 1"), api.Message{Kind: api.Request, From: 8, Slot: 4, Value: "put 4 4 0 1"}, api.Message{Kind: api.Request, From: 7, Slot: 5, Value: "put 4 4 0 1"})
}

// A server that does not lead leaves requests to the one that does.
func TestServesAsItLeads(t *testing.T) {
	r := &rig{t: t, s: fresh()}
	r.same("it follows", request("put 4 1 0 1"), request("prepare 4 1"), request("abort 4"))
	r.ticks(5)
	r.sent = nil
	r.same("it stands", request("put 4 1 0 1"), request("prepare 4 1"))
}

func vote(kind, from int, group string, ballot int, value string) api.Message {
	return api.Message{Kind: kind, From: from, Group: group, Ballot: ballot, Value: value}
}

func TestVotes(t *testing.T) {
	r := leads(t, "put 4 1 0 1")
	r.take(request("prepare 4 3"))
	r.take(accepted(0, 67, 1, "prepare 4 3"))
	r.holds("P21", "accept s0 67 #1 prepare 4 3")
	r.take(accepted(1, 67, 1, "prepare 4 3"))
	r.holds("P21: the vote, by the ballot 0", "chosen>4 s0 0 #1 prepare 4 3", "accept v4.0 0 #0 P")
	for _, m := range []api.Message{
		vote(api.Accepted, 0, "v4.0", 0, "P"), vote(api.Accepted, 1, "v4.0", 0, "P"), // a majority in one shard
		vote(api.Accepted, 0, "v4.1", 0, "P"), vote(api.Accepted, 1, "v4.1", 70, "P"), vote(api.Accepted, 0, "v4.1", 0, "P"), // none by one ballot in the other
	} {
		r.take(m)
	}
	r.same("P21: no votes", vote(api.Accepted, 1, "v4.1", 0, "x"), vote(api.Accepted, 3, "v4.1", 0, "P"), vote(api.Accepted, 1, "v4.2", 0, "P"), vote(api.Accepted, 1, "v6.0", 0, "P"), api.Message{Kind: api.Accepted, From: 1, Group: "v4.1", Slot: 1, Value: "P"})
	if got := r.s.Outcomes(); len(got) > 0 {
		t.Errorf("P21: without a majority for the vote of shard 1 the outcome is %v", got)
	}
	r.holds("P21: not found")
	r.take(vote(api.Accepted, 2, "v4.1", 70, "P"))
	r.holds("P21: found", "reply>7 0 #0 outcome 4 6", "accept s0 67 #2 end 4 6")
	want := []api.Decision{{Tx: 4, Outcome: api.Committed}}
	if got := r.s.Outcomes(); !slices.Equal(got, want) || !slices.Equal(r.s.PullFound(), want) || len(r.s.PullFound()) > 0 {
		t.Errorf("P19: %v", got)
	}
	r.same("P19: once", vote(api.Accepted, 1, "v4.1", 70, "P"), vote(api.Accepted, 1, "v4.0", 0, "P"))
	if !slices.Equal(r.s.Held(), []int{4}) {
		t.Errorf("P18: held is %v", r.s.Held())
	}
	r.take(accepted(0, 67, 2, "end 4 6"))
	r.take(accepted(1, 67, 2, "end 4 6"))
	r.holds("P19: the client was told", "chosen>4 s0 0 #2 end 4 6")
	if len(r.s.Held()) > 0 || len(r.s.PullFound()) > 0 {
		t.Errorf("P18: held is %v", r.s.Held())
	}
}

// A server that hears the votes before it has applied that the transaction is prepared finds the outcome when it has.
func TestVotesAheadOfTheLog(t *testing.T) {
	r := &rig{t: t, s: fresh()}
	for _, group := range []string{"v4.0", "v4.1"} {
		r.take(vote(api.Accepted, 0, group, 0, "P"))
		r.take(vote(api.Accepted, 1, group, 0, "P"))
	}
	if got := r.s.Outcomes(); len(got) > 0 {
		t.Errorf("P21: which shards were asked is not known, and the outcome is %v", got)
	}
	for slot, v := range []string{"put 4 1 0 1", "prepare 4 3"} {
		r.take(api.Message{Kind: api.Chosen, From: 4, Group: "s0", Slot: slot, Value: v})
	}
	if got := r.s.Outcomes(); !slices.Equal(got, []api.Decision{{Tx: 4, Outcome: api.Committed}}) {
		t.Errorf("P21: all votes are known, and the outcome is %v", got)
	}
	r.holds("P18: who follows tells nobody")
	r.ticks(5)
	r.sent = nil
	r.take(promise(0, 67))
	r.take(promise(1, 67))
	r.holds("P22: who leads then ends it, and seeks nothing", "beat>4 s0 67 #2", "accept s0 67 #2 end 4 6")
	r.ticks(seekTicks)
	if got := r.only("prepare"); len(got) > 0 {
		t.Errorf("P22: the outcome is known, and it asks for %q", got)
	}
}

// Orders of a transaction whose outcome is found come into the log no more.
func TestOrdersInVain(t *testing.T) {
	r := leads(t, "put 4 1 0 1")
	r.take(request("put 4 2 0 2"))
	r.take(api.Message{Kind: api.Request, From: 8, Slot: 1, Value: "get 5 1 2"})
	r.take(request("prepare 4 3"))
	r.take(request("prepare 4 3"))
	r.take(api.Message{Kind: api.Request, From: 8, Slot: 1, Value: "get 5 1 2"})
	if n := len(r.s.queue); n != 2 {
		t.Errorf("P22: two orders were asked for, more than once, and %d wait", n)
	}
	r.take(vote(api.Accepted, 0, "v5.1", 64, "A"))
	r.take(vote(api.Accepted, 1, "v5.1", 64, "A"))
	r.sent = nil
	for slot, v := range []string{"put 4 2 0 2", "prepare 4 3"} {
		r.take(accepted(0, 67, 1+slot, v))
		r.take(accepted(1, 67, 1+slot, v))
	}
	if got := r.s.Applied(); !slices.Equal(got, []string{"put 4 1 0 1", "put 4 2 0 2", "prepare 4 3"}) || r.s.flight.is {
		t.Errorf("P18: applied is %q, proposed %q", got, r.s.flight.value)
	}
}

// Who begins to lead votes for what is prepared, and looks for its outcome.
func TestLeadsWithOpenTransactions(t *testing.T) {
	r := &rig{t: t, s: fresh()}
	for slot, v := range []string{"put 4 1 0 1", "prepare 4 3", "put 5 1 2 1", "prepare 5 1", "end 5 6"} {
		r.take(api.Message{Kind: api.Chosen, From: 4, Group: "s0", Slot: slot, Value: v})
	}
	r.ticks(5)
	r.sent = nil
	r.take(promise(0, 67))
	r.take(promise(1, 67))
	r.holds("P21", "beat>4 s0 67 #5", "accept v4.0 0 #0 P")
	r.ticks(seekTicks)
	if got := r.only("prepare"); !slices.Equal(got, []string{"prepare v4.0 131 #0", "prepare v4.1 195 #0"}) {
		t.Errorf("P22: it asks for %q", got)
	}
}

// One vote against it is enough; a shard that was not asked to prepare frees the locks then.
func TestVoteAgainst(t *testing.T) {
	r := leads(t, "put 4 1 0 1")
	r.take(vote(api.Accepted, 0, "v4.1", 64, "A"))
	r.take(vote(api.Accepted, 2, "v4.1", 64, "A"))
	r.holds("P21", "reply>7 0 #0 outcome 4 5", "accept s0 67 #1 end 4 5")
	r.take(request("prepare 4 3"))
	r.holds("P21: its own vote is not in the log yet", "reply>7 0 #0 outcome 4 5")
	r.take(accepted(0, 67, 1, "end 4 5"))
	r.take(accepted(1, 67, 1, "end 4 5"))
	r.sent = nil
	r.take(request("prepare 4 3"))
	r.holds("P21: now it is", "reply>7 0 #0 outcome 4 5", "accept v4.0 0 #0 A")
	r.take(request("get 4 2 0"))
	r.holds("P11", "reply>7 0 #0 outcome 4 5")
}

// only: what was sent that begins with a word.
func (r *rig) only(word string) []string {
	list := slices.DeleteFunc(r.sent, func(s string) bool { return !strings.HasPrefix(s, word) })
	r.sent = nil
	return list
}

// A leader looks for the votes that it does not know, again and again, by ballots of its own.
func TestRescueBegins(t *testing.T) {
	r := leads(t, "put 4 1 0 1", "prepare 4 3")
	r.take(vote(api.Reject, 0, "v4.1", 64*30, ""))
	r.ticks(seekTicks - 1)
	if got := r.only("prepare"); len(got) > 0 {
		t.Errorf("P21: too early: %q", got)
	}
	for i, want := range [][]string{{"prepare v4.0 131 #0", "prepare v4.1 195 #0"}, {"prepare v4.0 259 #0", "prepare v4.1 1283 #0"}, {"prepare v4.0 1347 #0", "prepare v4.1 1411 #0"}} {
		r.ticks(1)
		if got := r.only("prepare"); !slices.Equal(got, want) {
			t.Errorf("P22: it asks for %q, want %q", got, want)
		}
		if i == 0 {
			r.take(vote(api.Reject, 0, "v4.1", 64*20, ""))
		}
		r.ticks(againTicks - 1)
		if got := r.only("prepare"); len(got) > 0 {
			t.Errorf("P22: too early: %q", got)
		}
	}
	r.take(vote(api.Accepted, 0, "v4.0", 0, "P"))
	r.take(vote(api.Accepted, 1, "v4.0", 0, "P"))
	r.ticks(1)
	if got := r.only("prepare"); !slices.Equal(got, []string{"prepare v4.1 1475 #0"}) {
		t.Errorf("P22: it knows the vote of shard 0, and asks for %q", got)
	}
}

// What is proposed when enough have promised.
func TestRescueProposes(t *testing.T) {
	for _, c := range []struct {
		group         string
		first, second []api.Entry
		want          string
	}{
		{"v4.1", nil, nil, "A"}, // nobody has voted: it shall have no effect
		{"v4.1", []api.Entry{{Ballot: 0, Value: "P"}}, nil, "P"},
		{"v4.1", []api.Entry{{Ballot: 0, Value: "P"}}, []api.Entry{{Ballot: 70, Value: "A"}}, "A"},
		{"v4.1", []api.Entry{{Ballot: 70, Value: "A"}}, []api.Entry{{Ballot: 0, Value: "P"}}, "A"},
		{"v4.0", nil, nil, "P"}, // its own, which the log tells
		{"v4.0", nil, []api.Entry{{Ballot: 70, Value: "A"}}, "A"},
	} {
		r := leads(t, "put 4 1 0 1", "prepare 4 3")
		r.ticks(seekTicks)
		r.sent = nil
		ballot := map[string]int{"v4.0": 131, "v4.1": 195}[c.group]
		r.same("no promise of its own", vote(api.Promise, 0, c.group, 326-ballot, ""), vote(api.Promise, 0, "v5.0", ballot, ""), vote(api.Promise, 3, c.group, ballot, ""))
		r.take(api.Message{Kind: api.Promise, From: 0, Group: c.group, Ballot: ballot, List: c.first})
		r.same("P21: one promise is no majority", api.Message{Kind: api.Promise, From: 0, Group: c.group, Ballot: ballot, List: c.first})
		r.take(api.Message{Kind: api.Promise, From: 2, Group: c.group, Ballot: ballot, List: c.second})
		r.holds("P21: "+c.want, fmt.Sprintf("accept %s %d #0 %s", c.group, ballot, c.want))
		r.same("it has asked already", api.Message{Kind: api.Promise, From: 1, Group: c.group, Ballot: ballot})
	}
}

// A leader that learns the votes gives up looking for them.
func TestRescueEnds(t *testing.T) {
	r := leads(t, "put 4 1 0 1", "prepare 4 3")
	r.ticks(seekTicks)
	r.take(vote(api.Promise, 0, "v4.0", 131, ""))
	r.take(vote(api.Promise, 0, "v4.1", 195, ""))
	for _, group := range []string{"v4.0", "v4.1"} {
		r.take(vote(api.Accepted, 0, group, 0, "P"))
		r.take(vote(api.Accepted, 1, group, 0, "P"))
	}
	r.sent = nil
	r.ticks(3 * againTicks)
	if got := r.only("prepare"); len(got) > 0 || len(r.s.rescues.Keys())+len(r.s.seeks.Keys())+len(r.s.votes.Keys()) > 0 || r.s.promises.Has(131, 0) || r.s.promises.Has(195, 0) {
		t.Errorf("P22: the outcome is found, and it looks on: %q", got)
	}
}

// A leader that follows again leaves all that a leader does.
func TestGivesUp(t *testing.T) {
	r := leads(t, "put 4 1 0 1", "prepare 4 3")
	r.ticks(seekTicks)
	r.take(request("put 4 2 0 2"))
	r.take(api.Message{Kind: api.Beat, From: 4, Group: "s0", Ballot: 132})
	r.sent = nil
	r.ticks(4)
	r.holds("it follows")
	s := fresh()
	s.Load("3")
	for slot, v := range []string{"put 4 1 0 1", "prepare 4 3"} {
		s.Take(api.Message{Kind: api.Chosen, From: 4, Group: "s0", Slot: slot, Value: v}, r.send)
	}
	s.Take(api.Message{Kind: api.Beat, From: 4, Group: "s0", Ballot: 132}, r.send)
	for range 4 {
		s.Tick(r.send)
	}
	if r.s.State() != s.State() {
		t.Errorf("P18: it knows %s, want what one knows that has always followed: %s", r.s.State(), s.State())
	}
}

// Ballots are made up to MaxBallot.
func TestNextBallot(t *testing.T) {
	for _, c := range []struct {
		stored       string
		above, want  int
		wantStoredIs string
	}{
		{"0", 0, 67, "1"}, {"7", 0, 64*8 + 3, "8"}, {"0", 66, 67, "1"}, {"0", 67, 131, "2"}, {"0", 68, 131, "2"}, {"5", 64*5 + 60, 64*6 + 3, "6"}, {"5", 64 * 100, 64*100 + 3, "100"},
		{"262142", 0, api.MaxBallot - 60, "262143"}, {"0", api.MaxBallot - 61, api.MaxBallot - 60, "262143"}, {"0", api.MaxBallot - 60, 0, "0"}, {"0", api.MaxBallot, 0, "0"}, {"262143", 0, 0, "262143"},
	} {
		s := fresh()
		s.Load(c.stored)
		if got, is := s.nextBallot(c.above); got != c.want || is != (c.want != 0) || s.Stored() != c.wantStoredIs {
			t.Errorf("Ballots: behind the round %s, above %d: %d, %v, and stored is %s", c.stored, c.above, got, is, s.Stored())
		}
	}
}
