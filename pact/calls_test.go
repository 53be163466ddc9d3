package pact_test

import (
	"fmt"
	"slices"
	"strings"
	"testing"

	"pact/api"
	"pact/pact"
)

func call(kind, client int, numbers ...int) api.Step {
	s := api.Step{Kind: kind, A: client}
	for i, n := range numbers {
		*[]*int{&s.B, &s.C}[i] = n
	}
	return s
}

// rounds does some Rounds.
func rounds(x *pact.Cluster, n int) {
	for range n {
		do(x, api.Round, 0, 0)
	}
}

// events: calls and answers in short: client, transaction, op, key, word, answer.
func events(list []api.Event) []string {
	short := []string{}
	for _, e := range list {
		short = append(short, fmt.Sprintf("%d/%d %s %d %d %s", e.Client, e.Tx,
			[]string{"", "begin", "get", "put", "commit", "abort"}[e.Op], e.Key, e.Word,
			[]string{"asked", "value", "absent", "done", "busy", "aborted", "committed"}[e.Answer]))
	}
	return short
}

// adds: a step, and so many Rounds, add these to History.
func adds(t *testing.T, what string, x *pact.Cluster, s api.Step, n int, want ...string) {
	t.Helper()
	was := len(x.History())
	x.Do(s)
	rounds(x, n)
	if got := events(x.History()[was:]); !slices.Equal(got, want) {
		t.Errorf("%s: %+v adds %q, want %q", what, s, got, want)
	}
}

func TestHistory(t *testing.T) {
	x := begun(t, 1, 2, 2)
	for _, c := range []struct {
		s    api.Step
		want []string
	}{
		{call(api.Begin, 0, 3, 4), []string{"0/4 begin 0 0 asked", "0/4 begin 0 0 done"}},
		{call(api.Get, 0, 5, 77), []string{"0/4 get 5 0 asked", "0/4 get 5 0 absent"}},
		{call(api.Put, 0, 5, 999), []string{"0/4 put 5 999 asked", "0/4 put 5 999 done"}},
		{call(api.Get, 0, 5, 77), []string{"0/4 get 5 0 asked", "0/4 get 5 999 value"}},
		{call(api.Put, 0, 0, 0), []string{"0/4 put 0 0 asked", "0/4 put 0 0 done"}},
		{call(api.Get, 0, 0), []string{"0/4 get 0 0 asked", "0/4 get 0 0 value"}},
		{call(api.Commit, 0, 3, 4), []string{"0/4 commit 0 0 asked", "0/4 commit 0 0 committed"}},
		{call(api.Begin, 1), []string{"1/5 begin 0 0 asked", "1/5 begin 0 0 done"}},
		{call(api.Get, 1, 5), []string{"1/5 get 5 0 asked", "1/5 get 5 999 value"}},
		{call(api.Put, 1, 5, 12), []string{"1/5 put 5 12 asked", "1/5 put 5 12 done"}},
		{call(api.Abort, 1, 3, 4), []string{"1/5 abort 0 0 asked", "1/5 abort 0 0 aborted"}},
		{call(api.Begin, 1), []string{"1/9 begin 0 0 asked", "1/9 begin 0 0 done"}},
		{call(api.Get, 1, 5), []string{"1/9 get 5 0 asked", "1/9 get 5 999 value"}},
	} {
		adds(t, "P11", x, c.s, 60, c.want...)
	}
}

// What is answered at once: Begin, Abort, and the Commit of a transaction that asked nothing.
func TestAnsweredAtOnce(t *testing.T) {
	x := begun(t, 0, 1, 2)
	adds(t, "P11", x, call(api.Begin, 1), 0, "1/5 begin 0 0 asked", "1/5 begin 0 0 done")
	adds(t, "P11", x, call(api.Commit, 1), 0, "1/5 commit 0 0 asked", "1/5 commit 0 0 committed")
	adds(t, "P11", x, call(api.Begin, 0), 0, "0/4 begin 0 0 asked", "0/4 begin 0 0 done")
	adds(t, "P11", x, call(api.Abort, 0), 0, "0/4 abort 0 0 asked", "0/4 abort 0 0 aborted")
	adds(t, "P11", x, call(api.Begin, 0), 0, "0/8 begin 0 0 asked", "0/8 begin 0 0 done")
	adds(t, "P11", x, call(api.Put, 0, 1, 2), 60, "0/8 put 1 2 asked", "0/8 put 1 2 done")
	adds(t, "P11: one that asked something", x, call(api.Commit, 0), 0, "0/8 commit 0 0 asked")
	adds(t, "P11", x, call(api.Begin, 1), 0, "1/9 begin 0 0 asked", "1/9 begin 0 0 done")
	adds(t, "P11", x, call(api.Get, 1, 3), 60, "1/9 get 3 0 asked", "0/8 commit 0 0 committed", "1/9 get 3 0 absent")
	adds(t, "P11: one that asked something", x, call(api.Abort, 1), 0, "1/9 abort 0 0 asked", "1/9 abort 0 0 aborted")
	want := []api.Decision{{Tx: 5, Outcome: api.Committed}, {Tx: 4, Outcome: api.Aborted}, {Tx: 8, Outcome: api.Committed}, {Tx: 9, Outcome: api.Aborted}}
	if got := x.Decided(); !slices.Equal(got, want) {
		t.Errorf("P20: Decided: %v, want %v", got, want)
	}
}

// calls: each kind of call, once.
func calls(client int) []api.Step {
	return []api.Step{call(api.Begin, client), call(api.Get, client, 1), call(api.Put, client, 1, 2), call(api.Commit, client), call(api.Abort, client)}
}

// nothing: the steps do nothing at all.
func nothing(t *testing.T, what string, x *pact.Cluster, list ...api.Step) {
	t.Helper()
	was := all(x, 9)
	for _, s := range list {
		if x.Do(s); all(x, 9) != was {
			t.Fatalf("P11: %s: %+v does something:\n%s\nwas\n%s", what, s, all(x, 9), was)
		}
	}
}

func TestCallsThatDoNotFit(t *testing.T) {
	x := begun(t, 1, 1, 2)
	nothing(t, "no transaction", x, calls(0)[1:]...)
	nothing(t, "no transaction", x, calls(1)[1:]...)
	x.Do(call(api.Begin, 0))
	nothing(t, "a transaction", x, call(api.Begin, 0))
	nothing(t, "no transaction of this client", x, calls(1)[1:]...)
	for _, s := range calls(0)[1:4] { // Get, Put, Commit wait for their answers
		x.Do(s)
		nothing(t, "a call", x, calls(0)...)
		rounds(x, 60)
	}
	nothing(t, "the transaction has ended", x, calls(0)[1:]...)
	x.Do(call(api.Begin, 0))
	x.Do(call(api.Abort, 0))
	nothing(t, "the transaction has ended", x, calls(0)[1:]...)
}

func TestCallsOutOfRange(t *testing.T) {
	x := begun(t, 1, 2, 2)
	for _, client := range append(wild(), 2, 3, 7, 8) {
		nothing(t, "no such client", x, calls(client)...)
	}
	x.Do(call(api.Begin, 0))
	for _, key := range append(wild(), 6, 7) {
		nothing(t, "no such key", x, call(api.Get, 0, key), call(api.Put, 0, key, 1))
	}
	for _, word := range append(wild(), 1000) {
		nothing(t, "no such word", x, call(api.Put, 0, 1, word))
	}
	adds(t, "P11: what was asked in vain was not asked", x, call(api.Commit, 0), 0, "0/4 commit 0 0 asked", "0/4 commit 0 0 committed")
	adds(t, "P11", x, call(api.Begin, 1), 0, "1/5 begin 0 0 asked", "1/5 begin 0 0 done")
	for i, s := range []api.Step{call(api.Put, 1, 5, 999), call(api.Put, 1, 0, 0)} {
		adds(t, "P11: at the edge", x, s, 60, fmt.Sprintf("1/5 put %d %d asked", 5-5*i, 999-999*i), fmt.Sprintf("1/5 put %d %d done", 5-5*i, 999-999*i))
	}
}

func TestMaxTx(t *testing.T) {
	c := api.Config{F: 0, Shards: 1, Clients: 3}
	x := begun(t, c.F, c.Shards, c.Clients)
	for n := 1; n <= api.MaxTx; n++ {
		adds(t, "P11", x, call(api.Begin, 2), 0, fmt.Sprintf("2/%d begin 0 0 asked", 4*n+2), fmt.Sprintf("2/%d begin 0 0 done", 4*n+2))
		x.Do(call(api.Commit+n%2, 2))
	}
	nothing(t, "one more than MaxTx", x, calls(2)...)
	adds(t, "P11: of another client", x, call(api.Begin, 0), 0, "0/4 begin 0 0 asked", "0/4 begin 0 0 done")
	x = reopened(t, x, c)
	nothing(t, "one more than MaxTx, behind Reopen", x, calls(2)...)
	adds(t, "P24: of another client", x, call(api.Begin, 0), 0, "0/8 begin 0 0 asked", "0/8 begin 0 0 done")
}

// The younger of two that want the same key has no effect, whatever it is that it asks then.
func TestAbortedIsTheAnswerToAll(t *testing.T) {
	for _, c := range []struct {
		s    api.Step
		want []string
	}{
		{call(api.Get, 1, 2), []string{"1/5 get 2 0 asked", "1/5 get 2 0 aborted"}},
		{call(api.Put, 1, 2, 7), []string{"1/5 put 2 7 asked", "1/5 put 2 0 aborted"}},
		{call(api.Commit, 1), []string{"1/5 commit 0 0 asked", "1/5 commit 0 0 aborted"}},
	} {
		x := begun(t, 1, 1, 2)
		x.Do(call(api.Begin, 0))
		x.Do(call(api.Begin, 1))
		x.Do(call(api.Put, 1, 0, 5))
		rounds(x, 60)
		adds(t, "P6", x, call(api.Put, 0, 0, 4), 60, "0/4 put 0 4 asked", "0/4 put 0 4 done")
		adds(t, "P11", x, c.s, 60, c.want...)
		nothing(t, "the transaction has ended", x, calls(1)[1:]...)
		adds(t, "P11", x, call(api.Begin, 1), 0, "1/9 begin 0 0 asked", "1/9 begin 0 0 done")
	}
}

// One that waits for an older one has its answer when that ends.
func TestCallsThatWait(t *testing.T) {
	for kind, word := range map[int]string{api.Commit: "1/5 get 0 4 value", api.Abort: "1/5 get 0 0 absent"} {
		x := begun(t, 1, 2, 3)
		for client := range 3 {
			x.Do(call(api.Begin, client))
		}
		adds(t, "P11", x, call(api.Put, 0, 0, 4), 60, "0/4 put 0 4 asked", "0/4 put 0 4 done")
		adds(t, "P11", x, call(api.Put, 1, 2, 4), 60, "1/5 put 2 4 asked", "1/5 put 2 4 done")
		adds(t, "P6: it waits", x, call(api.Get, 1, 0), 60, "1/5 get 0 0 asked")
		adds(t, "P6: it waits", x, call(api.Put, 2, 2, 6), 60, "2/6 put 2 6 asked")
		for _, server := range []int{3, 4} {
			if got := x.Held(server); !slices.Equal(got, []int{4, 5, 6}) {
				t.Errorf("P18: server %d tells that %v hold or await locks", server, got)
			}
		}
		x.Do(call(kind, 0))
		was := len(x.History())
		rounds(x, 60)
		if got := events(x.History()[was:]); got[len(got)-1] != word {
			t.Errorf("P6: when the older one has ended: %q, want %q", got, word)
		}
		x.Do(call(api.Abort, 1))
		was = len(x.History())
		rounds(x, 60)
		if got := events(x.History()[was:]); !slices.Equal(got, []string{"2/6 put 2 6 done"}) {
			t.Errorf("P6: when the older one has ended: %q", got)
		}
	}
}

// One that waits, and loses another lock to an older one, waits no more.
func TestCallThatIsWoundedWhileItWaits(t *testing.T) {
	x := begun(t, 1, 1, 3)
	for client := range 3 {
		x.Do(call(api.Begin, client))
	}
	adds(t, "P11", x, call(api.Put, 0, 0, 4), 60, "0/4 put 0 4 asked", "0/4 put 0 4 done")
	adds(t, "P11", x, call(api.Put, 2, 1, 6), 60, "2/6 put 1 6 asked", "2/6 put 1 6 done")
	adds(t, "P6: it waits", x, call(api.Put, 2, 0, 6), 60, "2/6 put 0 6 asked")
	adds(t, "P6", x, call(api.Get, 1, 1), 60, "1/5 get 1 0 asked", "1/5 get 1 0 absent", "2/6 put 0 0 aborted")
	for _, server := range []int{3, 4} {
		if got := x.Held(server); !slices.Equal(got, []int{4, 5}) {
			t.Errorf("P18: server %d tells that %v hold or await locks", server, got)
		}
	}
}

// drops drops all requests and replies that begin with a word.
func drops(x *pact.Cluster, word string) {
	for i := len(x.Bag()) - 1; i >= 0; i-- {
		if m, e := pact.Decode(x.Bag()[i]); e == api.OK && m.Kind >= api.Request && strings.HasPrefix(m.Value, word) {
			do(x, api.Drop, i, 0)
		}
	}
}

// A table of locks that is full: Busy, and the call has had no effect. What was answered so was asked.
func TestBusy(t *testing.T) {
	x := begun(t, 1, 2, 2)
	waits := func() {
		for range 30 {
			drops(x, "abort") // so those that have ended keep their locks
			do(x, api.Round, 0, 0)
		}
	}
	for range 8 {
		x.Do(call(api.Begin, 0))
		for key := 0; key < api.Keys; key += 2 {
			x.Do(call(api.Get, 0, key))
			waits()
		}
		x.Do(call(api.Abort, 0))
		waits()
	}
	if got := x.Held(3); len(got) != 8 {
		t.Fatalf("P18: %v hold locks, want 8", got)
	}
	x.Do(call(api.Begin, 1))
	for i, s := range []api.Step{call(api.Get, 1, 2), call(api.Put, 1, 2, 7)} {
		was := len(x.History())
		x.Do(s)
		waits()
		want := [][]string{{"1/5 get 2 0 asked", "1/5 get 2 0 busy"}, {"1/5 put 2 7 asked", "1/5 put 2 0 busy"}}[i]
		if got := events(x.History()[was:]); !slices.Equal(got, want) {
			t.Errorf("P11: a full table: %q, want %q", got, want)
		}
	}
	adds(t, "P11: what was answered Busy was asked", x, call(api.Commit, 1), 0, "1/5 commit 0 0 asked")
	rounds(x, 60)
	h := x.History()
	if got := events(h[len(h)-1:]); got[0] != "1/5 commit 0 0 committed" {
		t.Errorf("P11: the Commit is answered %q", got)
	}
	adds(t, "P22: the locks are free again", x, call(api.Begin, 1), 60, "1/9 begin 0 0 asked", "1/9 begin 0 0 done")
	adds(t, "P11: a Put that was answered Busy has had no effect", x, call(api.Get, 1, 2), 60, "1/9 get 2 0 asked", "1/9 get 2 0 absent")
	if got := x.Held(3); !slices.Equal(got, []int{9}) {
		t.Errorf("P22: %v hold locks", got)
	}
}

// A log that is full: all calls are answered nevertheless.
func TestFullLog(t *testing.T) {
	x := begun(t, 0, 1, 2)
	x.Do(call(api.Begin, 0))
	word := 0
	for len(x.Applied(1)) < api.MaxSlot {
		word++
		adds(t, "P23: it is not full", x, call(api.Put, 0, 1, word), 15, fmt.Sprintf("0/4 put 1 %d asked", word), fmt.Sprintf("0/4 put 1 %d done", word))
	}
	adds(t, "P23: its last slot", x, call(api.Put, 0, 1, 999), 15, "0/4 put 1 999 asked", "0/4 put 1 999 done")
	for _, server := range []int{1, 2} {
		if n := len(x.Applied(server)); n != api.MaxSlot+1 {
			t.Errorf("P18: server %d has applied %d values", server, n)
		}
	}
	adds(t, "P11: it is full", x, call(api.Put, 0, 1, 998), 15, "0/4 put 1 998 asked", "0/4 put 1 0 busy")
	adds(t, "P11: it is full", x, call(api.Get, 0, 2), 15, "0/4 get 2 0 asked", "0/4 get 2 0 busy")
	adds(t, "P11: it is full", x, call(api.Commit, 0), 100, "0/4 commit 0 0 asked", "0/4 commit 0 0 aborted")
	adds(t, "P11: it is full", x, call(api.Begin, 1), 0, "1/5 begin 0 0 asked", "1/5 begin 0 0 done")
	adds(t, "P11: it is full", x, call(api.Get, 1, 2), 15, "1/5 get 2 0 asked", "1/5 get 2 0 busy")
	adds(t, "P11: it is full", x, call(api.Commit, 1), 100, "1/5 commit 0 0 asked", "1/5 commit 0 0 aborted")
	log := x.Applied(1)
	for a := range 3 {
		do(x, api.Crash, a, 0)
		do(x, api.Restart, a, 0)
	}
	rounds(x, 60)
	if !slices.Equal(x.Applied(1), log) || !slices.Equal(x.Applied(2), log) {
		t.Errorf("P18: behind a crash of all %d and %d values are applied, of a full log", len(x.Applied(1)), len(x.Applied(2)))
	}
}
