// Package client: the nodes that run transactions, one at a time, and in it one call at a time.
package client

import (
	"slices"

	"pact/api"
	"pact/keep"
	"pact/plan"
	"pact/record"
	"pact/talk"
)

// askTicks is after how many ticks a client asks again.
const askTicks = 6

// Client is a client.
type Client struct {
	config api.Config
	self   int // its node
	number int // among the clients

	begun int // transactions; stored
	asked int // requests for Gets and Puts; stored, so that none has the number of another one

	tx     int       // the transaction that it runs, or 0
	shards int       // that the transaction has asked, a bit for each
	call   api.Event // that waits for its answer; Op is 0, if there is none
	ticks  int       // since it was sent last

	ended  keep.Table[int, int] // outcomes, by transaction
	events []api.Event          // that nobody has asked for yet
	found  []api.Decision       // likewise
}

// turn is a client that deals with one step, message or tick.
type turn struct {
	*Client
	send func(api.Message)
}

// New makes the client of that number, which has begun and asked nothing.
func New(c api.Config, self int) *Client {
	return &Client{config: c, self: self, number: self - plan.FirstClient(c)}
}

// Do does a client's step, if it fits what the client does (P11).
func (c *Client) Do(s api.Step, send func(api.Message)) {
	t := turn{c, send}
	switch {
	case s.Kind == api.Begin:
		t.begin()
	case c.tx == 0 || c.call.Op != 0: // all others need a transaction, and no call
	case s.Kind == api.Get && talk.IsKey(s.B):
		t.ask(api.Get, s.B, 0)
	case s.Kind == api.Put && talk.IsKey(s.B) && talk.IsWord(s.C):
		t.ask(api.Put, s.B, s.C)
	case s.Kind == api.Commit:
		t.commit()
	case s.Kind == api.Abort:
		t.open(api.Abort, 0, 0)
		t.finish(api.Aborted)
	}
}

func (t turn) begin() {
	if t.tx != 0 || t.begun == api.MaxTx {
		return
	}
	t.begun++
	t.tx = plan.Tx(t.number, t.begun)
	t.open(api.Begin, 0, 0)
	t.close(api.Done, 0)
}

// ask begins a Get or Put. A client that has no number left for a request cannot ask now, nor ever.
func (t turn) ask(op, key, word int) {
	t.open(op, key, word)
	t.shards |= 1 << plan.ShardOf(t.config, key)
	if t.asked == api.MaxSeq {
		t.close(api.Busy, 0)
		return
	}
	t.asked++
	t.request()
}

func (t turn) commit() {
	t.open(api.Commit, 0, 0)
	if t.shards == 0 {
		t.finish(api.Committed)
		return
	}
	t.request()
}

// open begins a call.
func (c *Client) open(op, key, word int) {
	c.call = api.Event{Client: c.number, Tx: c.tx, Op: op, Key: key, Word: word}
	c.events = append(c.events, c.call)
}

// close answers the call.
func (c *Client) close(answer, word int) {
	c.call.Answer, c.call.Word = answer, word
	c.events = append(c.events, c.call)
	c.call, c.ticks = api.Event{}, 0
}

// finish answers the call by the outcome of the transaction, which ends by that. The shards of one that is aborted are told so, once: they will ask, if they don't hear it.
func (t turn) finish(outcome int) {
	tx, shards := t.tx, t.shards
	t.close(outcome, 0)
	*t.ended.At(tx) = outcome
	t.found = append(t.found, api.Decision{Tx: tx, Outcome: outcome})
	t.tx, t.shards = 0, 0
	if outcome == api.Aborted {
		t.toShards(shards, talk.Order{Kind: talk.Abort, Tx: tx})
	}
}

// request sends what the call asks for: a Commit to all shards that the transaction has asked, a Get or Put to that of the key.
func (t turn) request() {
	t.ticks = 0
	o := talk.Order{Kind: talk.Get, Tx: t.tx, Seq: t.asked, Key: t.call.Key}
	switch t.call.Op {
	case api.Commit:
		t.toShards(t.shards, talk.Order{Kind: talk.Prepare, Tx: t.tx, Shards: t.shards})
		return
	case api.Put:
		o.Kind, o.Word = talk.Put, t.call.Word
	}
	t.toShards(1<<plan.ShardOf(t.config, t.call.Key), o)
}

// toShards sends an order to both servers of these shards: which of them leads the client does not know.
func (t turn) toShards(shards int, o talk.Order) {
	for number := range t.config.Shards {
		if shards>>number&1 == 1 {
			first := plan.ServersOf(t.config, number)
			t.to(first, o)
			t.to(first+1, o)
		}
	}
}

func (t turn) to(node int, o talk.Order) {
	t.send(api.Message{Kind: api.Request, From: t.self, To: node, Slot: o.Seq, Value: o.Text()})
}

// Take deals with a message.
func (c *Client) Take(m api.Message, send func(api.Message)) {
	r, is := talk.ReadReply(c.config, m.Value)
	if m.Kind != api.Reply || !plan.IsServer(c.config, m.From) || !is {
		return
	}
	t := turn{c, send}
	switch r.Kind {
	case talk.Answer:
		t.hearAnswer(m.Slot, r)
	case talk.Outcome:
		t.hearOutcome(r)
	case talk.Question:
		if r.Tx != c.tx {
			t.to(m.From, talk.Order{Kind: talk.Abort, Tx: r.Tx})
		}
	}
}

// hearAnswer closes the call, if it is that of the request, and can be answered so.
func (c *Client) hearAnswer(seq int, r talk.Reply) {
	if seq != c.asked {
		return
	}
	switch {
	case r.Answer == api.Busy && (c.call.Op == api.Get || c.call.Op == api.Put):
		c.close(api.Busy, 0)
	case r.Answer == api.Done && c.call.Op == api.Put:
		c.close(api.Done, c.call.Word)
	case r.Answer != api.Done && c.call.Op == api.Get:
		c.close(r.Answer, r.Word)
	}
}

// hearOutcome closes the call, if it is one of the transaction. Without a call there is nothing to answer: the next one will be told again.
func (t turn) hearOutcome(r talk.Reply) {
	if r.Tx == t.tx && t.call.Op != 0 && (r.Answer == api.Aborted || t.call.Op == api.Commit) {
		t.finish(r.Answer)
	}
}

// Tick: the clock goes on; a call that has no answer is asked again.
func (c *Client) Tick(send func(api.Message)) {
	if c.call.Op == 0 {
		return
	}
	if c.ticks++; c.ticks == askTicks {
		turn{c, send}.request()
	}
}

// Outcomes tells how the client's transactions ended, by their numbers.
func (c *Client) Outcomes() []api.Decision {
	var list []api.Decision
	for tx, outcome := range c.ended.All() {
		list = append(list, api.Decision{Tx: tx, Outcome: outcome})
	}
	return list
}

// PullEvents tells the calls and answers that have come about since it was asked last, in order.
func (c *Client) PullEvents() []api.Event {
	list := slices.Clone(c.events)
	c.events = nil
	return list
}

// PullFound tells the outcomes that were found since it was asked last, in order.
func (c *Client) PullFound() []api.Decision {
	list := slices.Clone(c.found)
	c.found = nil
	return list
}

// State tells all that the client knows.
func (c *Client) State() string {
	var w record.Writer
	w.Numbers(c.begun, c.asked, c.tx, c.shards, c.ticks)
	w.Numbers(c.call.Tx, c.call.Op, c.call.Key, c.call.Word)
	for tx, outcome := range c.ended.All() {
		w.Numbers(tx, outcome)
	}
	return w.String()
}

// Stored tells how many transactions it has begun, and how many requests it has made.
func (c *Client) Stored() string {
	var w record.Writer
	w.Numbers(c.begun, c.asked)
	return w.String()
}

// Load stores what Stored has told. If it is none of that, it panics with a record.Fault.
func (c *Client) Load(text string) {
	r := record.Read(text)
	c.begun = r.Number(api.MaxTx)
	c.asked = r.Number(api.MaxSeq)
}
