package client

import (
	"fmt"
	"slices"
	"testing"

	"pact/api"
)

func fresh() *Client { return New(api.Config{F: 1, Shards: 2, Clients: 2}, 8) }

func caught(text string) (r any) {
	defer func() { r = recover() }()
	fresh().Load(text)
	return nil
}

func TestStored(t *testing.T) {
	for _, text := range []string{"0 0", "1 0", "0 1", "50 65535"} {
		c := fresh()
		if c.Load(text); c.Stored() != text || c.State() == fresh().State() != (text == "0 0") {
			t.Errorf("P24: %q is loaded as %q, with the state %q", text, c.Stored(), c.State())
		}
	}
	if got := fresh().Stored(); got != "0 0" {
		t.Errorf("P24: a new client has stored %q", got)
	}
	for _, text := range []string{"", "0", "51 0", "0 65536", "-1 0", "0 x"} {
		if caught(text) == nil {
			t.Errorf("P24: %q is loaded", text)
		}
	}
}

// net notes what is sent, in short: to whom, the slot and the value.
type net []string

func (n *net) send(m api.Message) {
	*n = append(*n, fmt.Sprintf("%d #%d %s", m.To, m.Slot, m.Value))
}

func (n *net) holds(t *testing.T, what string, want ...string) {
	t.Helper()
	if !slices.Equal(*n, want) {
		t.Errorf("%s: sent is %q, want %q", what, *n, want)
	}
	*n = nil
}

func (n *net) do(c *Client, kind, key, word int) {
	c.Do(api.Step{Kind: kind, A: 1, B: key, C: word}, n.send)
}

func (n *net) reply(c *Client, seq int, value string) {
	c.Take(api.Message{Kind: api.Reply, From: 3, To: 8, Slot: seq, Value: value}, n.send)
}

// last: the answer of the last call; Asked, if there is none.
func last(t *testing.T, what string, c *Client, want int) {
	t.Helper()
	list := c.PullEvents()
	if len(list) == 0 || list[len(list)-1].Answer != want {
		t.Errorf("%s: %+v, want %d", what, list, want)
	}
}

func TestRequests(t *testing.T) {
	var n net
	c := fresh()
	n.do(c, api.Begin, 0, 0)
	n.holds(t, "P11: Begin")
	n.do(c, api.Get, 3, 7)
	n.holds(t, "P11: Get", "5 #1 get 5 1 3", "6 #1 get 5 1 3")
	n.reply(c, 1, "answer 2 0")
	n.do(c, api.Put, 2, 7)
	n.holds(t, "P11: Put", "3 #2 put 5 2 2 7", "4 #2 put 5 2 2 7")
	n.reply(c, 2, "answer 3 0")
	n.do(c, api.Commit, 0, 0)
	n.holds(t, "P11: Commit", "3 #0 prepare 5 3", "4 #0 prepare 5 3", "5 #0 prepare 5 3", "6 #0 prepare 5 3")
	if got := c.Stored(); got != "1 2" {
		t.Errorf("P24: stored is %q", got)
	}
	n.reply(c, 0, "outcome 5 6")
	n.holds(t, "P11: Committed")
	n.do(c, api.Begin, 0, 0)
	n.do(c, api.Put, 1, 7)
	n.reply(c, 3, "answer 4 0")
	n.do(c, api.Abort, 0, 0)
	n.holds(t, "P11: Abort", "5 #3 put 9 3 1 7", "6 #3 put 9 3 1 7", "5 #0 abort 9", "6 #0 abort 9")
	want := []api.Decision{{Tx: 5, Outcome: api.Committed}, {Tx: 9, Outcome: api.Aborted}}
	if got := c.Outcomes(); !slices.Equal(got, want) || !slices.Equal(c.PullFound(), want) || len(c.PullFound()) != 0 {
		t.Errorf("P19: %v, want %v", got, want)
	}
}

// A call that has no answer is asked again, and again; one that has, is not.
func TestAskedAgain(t *testing.T) {
	var n net
	c := fresh()
	n.do(c, api.Begin, 0, 0)
	n.do(c, api.Get, 0, 0)
	n = nil
	for range 3 {
		for range askTicks {
			n.holds(t, "P22: not yet")
			c.Tick(n.send)
		}
		n.holds(t, "P22: asked again", "3 #1 get 5 1 0", "4 #1 get 5 1 0")
	}
	c.Tick(n.send)
	n.reply(c, 1, "answer 2 0")
	was := c.State()
	for range 3 * askTicks {
		c.Tick(n.send)
	}
	n.holds(t, "P22: it is answered")
	if c.State() != was {
		t.Errorf("P22: a client without a call knows %s, and knew %s", c.State(), was)
	}
}

// What does not fit the call is no answer to it.
func TestRepliesThatDoNotFit(t *testing.T) {
	var n net
	c := fresh()
	n.do(c, api.Begin, 0, 0)
	quiet := func(what string, seq int, values ...string) {
		t.Helper()
		for _, v := range values {
			was := c.State()
			n.reply(c, seq, v)
			if c.State() != was {
				t.Errorf("P11: %s: %q changes something", what, v)
			}
		}
	}
	quiet("no call", 0, "answer 1 5", "answer 3 0", "answer 4 0", "outcome 5 5", "outcome 5 6", "question 5", "x")
	n.do(c, api.Get, 0, 0)
	c.PullEvents()
	quiet("a Get", 1, "answer 3 0", "outcome 5 6", "outcome 9 5", "outcome 1 5", "question 5", "answer 5 0")
	quiet("a Get, and another request", 0, "answer 1 5", "answer 4 0")
	quiet("a Get, and another request", 2, "answer 1 5", "answer 4 0")
	was := c.State()
	for _, m := range []api.Message{{Kind: api.Reply, From: 2}, {Kind: api.Reply, From: 7}, {Kind: api.Request, From: 3}} { // from nodes that are no servers, or no reply
		m.To, m.Slot, m.Value = 8, 1, "answer 1 5"
		if c.Take(m, n.send); c.State() != was {
			t.Errorf("P11: %+v changes something", m)
		}
	}
	n.reply(c, 1, "answer 1 5")
	last(t, "P11", c, api.Value)
	n.do(c, api.Put, 0, 9)
	quiet("a Put", 2, "answer 1 5", "answer 2 0", "outcome 5 6")
	quiet("a Put, and the request before", 1, "answer 3 0", "answer 4 0")
	n.reply(c, 2, "answer 4 0")
	last(t, "P11", c, api.Busy)
	n.do(c, api.Commit, 0, 0)
	quiet("a Commit", 2, "answer 4 0", "answer 1 5", "answer 3 0", "outcome 9 6")
	n.reply(c, 0, "outcome 5 5")
	last(t, "P11", c, api.Aborted)
}

// A server that asks for a transaction that the client does not run hears that; of the one that it runs it hears nothing.
func TestQuestions(t *testing.T) {
	var n net
	c := fresh()
	n.reply(c, 0, "question 5")
	n.holds(t, "P22", "3 #0 abort 5")
	n.do(c, api.Begin, 0, 0)
	n.reply(c, 0, "question 5")
	n.holds(t, "P22: it runs")
	n.reply(c, 0, "question 9")
	n.holds(t, "P22", "3 #0 abort 9")
}

// A client whose requests have no numbers left answers Busy itself; Commit it still asks for.
func TestNumbersOfRequestsRunOut(t *testing.T) {
	var n net
	c := fresh()
	c.Load("3 65534")
	n.do(c, api.Begin, 0, 0)
	n.do(c, api.Get, 0, 0)
	n.holds(t, "P11: the last number", "3 #65535 get 17 65535 0", "4 #65535 get 17 65535 0")
	n.reply(c, 65535, "answer 2 0")
	last(t, "P11", c, api.Absent)
	n.do(c, api.Put, 1, 7)
	last(t, "P11", c, api.Busy)
	n.holds(t, "P11: no number left")
	n.do(c, api.Commit, 0, 0)
	n.holds(t, "P21: what was answered Busy was asked", "3 #0 prepare 17 3", "4 #0 prepare 17 3", "5 #0 prepare 17 3", "6 #0 prepare 17 3")
}
