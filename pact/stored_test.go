package pact_test

import (
	"fmt"
	"slices"
	"strings"
	"testing"

	"pact/api"
	"pact/pact"
)

// texts: what the nodes have stored.
func texts(x *pact.Cluster, nodes int) []string {
	var list []string
	for a := range nodes {
		list = append(list, x.Stored(a))
	}
	return list
}

func reopened(t *testing.T, x *pact.Cluster, c api.Config) *pact.Cluster {
	t.Helper()
	stored := texts(x, 2*c.F+1+2*c.Shards+c.Clients)
	y, e := pact.Reopen(c, stored)
	if y == nil || e != api.OK {
		t.Fatalf("P24: Reopen(%+v, %q): %v, %d", c, stored, y, e)
	}
	return y
}

// noted: a cluster whose acceptors have stored something, groups and values of all kinds of bytes among it.
func noted(t *testing.T, seed draw) *pact.Cluster {
	t.Helper()
	x := begun(t, 1, 1, 1)
	for range 60 {
		inject(t, x, seed.note())
	}
	inject(t, x, api.Message{Kind: api.Accept, Group: "\x00\xff\"\\ `\n\u2028\u00e9", Ballot: api.MaxBallot, Slot: api.MaxSlot, Value: "\x00" + strings.Repeat("\xfe \"", 13)})
	inject(t, x, api.Message{Kind: api.Accept, To: 2, Group: " ", Value: ""})
	inject(t, x, api.Message{Kind: api.Prepare, To: 2, Group: "s9", Ballot: 64})
	return x
}

func TestReopen(t *testing.T) {
	x := noted(t, 4)
	stored := texts(x, 6)
	if stored[0] == stored[1] || stored[1] == stored[2] {
		t.Fatalf("P24: acceptors that have promised otherwise tell the same: %q", stored)
	}
	do(x, api.Crash, 1, 0)
	y := reopened(t, x, api.Config{F: 1, Shards: 1, Clients: 1})
	if len(y.Bag()) != 0 || len(y.History()) != 0 || len(y.Decided()) != 0 {
		t.Errorf("P24: a cluster behind Reopen has %q, %v, %v", y.Bag(), y.History(), y.Decided())
	}
	for a := range 5 {
		do(x, api.Crash, a, 0)
		do(x, api.Restart, a, 0)
	}
	if told(y, 6) != told(x, 6) {
		t.Errorf("P24: the nodes know %s, want %s", told(y, 6), told(x, 6))
	}
	empty(x)
	d := draw(9)
	for range 100 {
		m := d.note()
		m.Ballot = d.next(3) * 200
		inject(t, x, m)
		inject(t, y, m)
	}
	if len(x.Bag()) < 100 || !slices.Equal(x.Bag(), y.Bag()) {
		t.Errorf("P24: behind Reopen acceptors answer %q, want %q", packets(y), packets(x))
	}
}

// Behind a crash of all, and behind Reopen, nobody takes a promise back or forgets what it accepted.
func TestReopenKeepsPromises(t *testing.T) {
	x := begun(t, 0, 1, 1)
	inject(t, x, api.Message{Kind: api.Accept, From: 1, Group: "v4.0", Value: "P"})
	inject(t, x, api.Message{Kind: api.Prepare, From: 2, Group: "v4.0", Ballot: 67})
	y := reopened(t, x, api.Config{Shards: 1, Clients: 1})
	inject(t, y, api.Message{Kind: api.Accept, From: 1, Group: "v4.0", Value: "A"})
	inject(t, y, api.Message{Kind: api.Prepare, From: 1, Group: "v4.0", Ballot: 130})
	holds(t, "P24", y, "reject 0>1 v4.0 67", "promise 0>1 v4.0 130 0:0=P")
}

func TestReopenOfANewCluster(t *testing.T) {
	for f := range 2 {
		x := begun(t, f, 3, 2)
		y := reopened(t, x, api.Config{F: f, Shards: 3, Clients: 2})
		if n := 2*f + 9; told(x, n) != told(y, n) {
			t.Errorf("P24: a new cluster knows %s, and reopened %s", told(x, n), told(y, n))
		}
		checkNew(t, y, 2*f+1, 6, 2)
	}
}

func TestReopenOfTooFewOrTooManyTexts(t *testing.T) {
	c := api.Config{F: 1, Shards: 1, Clients: 1}
	stored := texts(noted(t, 6), 6)
	for _, list := range [][]string{nil, {}, stored[:5], append(slices.Clone(stored), ""), append(slices.Clone(stored), stored[5]), make([]string, 1000)} {
		if x, e := pact.Reopen(c, list); x != nil || e != api.ErrArg {
			t.Errorf("P24: Reopen of %d texts: %v, %d, want ErrArg", len(list), x, e)
		}
	}
	for _, other := range []api.Config{{F: 0, Shards: 1, Clients: 1}, {F: 1, Shards: 2, Clients: 1}, {F: 1, Shards: 1, Clients: 2}} {
		if x, e := pact.Reopen(other, stored); x != nil || e != api.ErrArg {
			t.Errorf("P24: Reopen(%+v) of %d texts: %v, %d, want ErrArg", other, len(stored), x, e)
		}
	}
}

// Other texts are refused, or make some cluster: one that tells them, and whose acceptors answer.
func TestReopenOfOtherTexts(t *testing.T) {
	c := api.Config{F: 1, Shards: 1, Clients: 1}
	good := texts(noted(t, 8), 6)
	d := draw(3)
	refusals := 0
	for n := range 6000 {
		list := slices.Clone(good)
		for range 1 + d.next(2) {
			at := d.next(6)
			list[at] = d.spoilt(list[at])
		}
		before := slices.Clone(list)
		x, e := pact.Reopen(c, list)
		if !slices.Equal(list, before) {
			t.Fatalf("P2: Reopen has written into its argument")
		}
		if e != api.OK {
			if refusals++; x != nil || e != api.ErrArg {
				t.Fatalf("P24: Reopen(%q): %v, %d", list, x, e)
			}
			continue
		}
		if !slices.Equal(texts(x, 6), list) {
			t.Fatalf("P24: Reopen(%q) has stored %q", list, texts(x, 6))
		}
		checkAnswers(t, fmt.Sprintf("%d: %q", n, list), x)
	}
	if refusals == 0 || refusals == 6000 {
		t.Errorf("P24: %d of 6000 were refused", refusals)
	}
}

// checkAnswers: each acceptor answers what it is asked; and it goes on doing so behind a crash.
func checkAnswers(t *testing.T, what string, x *pact.Cluster) {
	t.Helper()
	for a := range 3 {
		do(x, api.Crash, a, 0)
		do(x, api.Restart, a, 0)
		for _, group := range []string{"s0", "s1", "v"} {
			n := len(x.Bag())
			inject(t, x, api.Message{Kind: api.Prepare, From: 3, To: a, Group: group, Ballot: 400})
			if len(x.Bag()) != n+1 {
				t.Fatalf("P24: %s: node %d answers nothing", what, a)
			}
		}
	}
}

// spoilt: a text with something changed.
func (d *draw) spoilt(s string) string {
	if s == "" || d.next(20) == 0 {
		return d.text(d.next(20))
	}
	at := d.next(len(s))
	switch d.next(6) {
	case 0:
		return s[:at]
	case 1:
		return s[:at] + s[at+1:]
	case 2:
		return s[:at] + d.text(1) + s[at:]
	case 3:
		return s[:at] + string("0123456789 -+\"\\v"[d.next(16)]) + s[at+1:]
	case 4:
		return s + s[at:]
	}
	return s[:at] + string("0123456789 -+\"\\v"[d.next(16)]) + s[at:]
}

// What is handed in is not kept: neither the list nor the texts.
func TestReopenKeepsNothingThatWasHandedIn(t *testing.T) {
	stored := texts(noted(t, 15), 6)
	room := append(slices.Clone(stored), "spare", "spare")
	x, e := pact.Reopen(api.Config{F: 1, Shards: 1, Clients: 1}, room[:6:7])
	if e != api.OK || room[6] != "spare" || !slices.Equal(room[:6], stored) {
		t.Fatalf("P2: Reopen: %d, and its argument is %q", e, room)
	}
	spoil(room, "spoilt")
	if !slices.Equal(texts(x, 6), stored) {
		t.Errorf("P2: what is written into the list is seen in the cluster")
	}
	for _, s := range texts(x, 6) {
		for _, other := range stored {
			if overlap(s, other) {
				t.Errorf("P2: %q lies in what was handed in", s)
			}
		}
	}
}
