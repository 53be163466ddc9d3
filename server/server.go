// Package server: the nodes that keep a shard's log by Paxos, two of them for a shard, and find out what becomes of its transactions.
package server

import (
	"slices"
	"strings"

	"pact/api"
	"pact/keep"
	"pact/plan"
	"pact/record"
	"pact/shard"
	"pact/tally"
)

// What a server does for its log.
const (
	following = 0
	standing  = 1 // it has asked the acceptors to promise its ballot
	leading   = 2 // a majority has promised it
)

// Server is a server. It leads its shard's log, or follows the other server of the shard.
type Server struct {
	config      api.Config
	self, other int // the two servers of the shard
	number      int // of the shard
	group       string

	round int // of its last ballot; stored, so that it makes none twice

	log   []string // what was chosen, from slot 0 on: all of it is applied
	shard shard.Shard

	role     int
	ballot   int                        // its own, while it stands or leads
	seen     int                        // the greatest ballot of the log that it has heard of
	quiet    int                        // ticks since it has heard of one that leads
	promises tally.Tally[int]           // by its own ballots, of the log and of votes: all of them are different
	promised keep.Table[int, api.Entry] // while it stands: what the acceptors have accepted, by slot

	flight   flight           // while it leads, as all that follows
	accepted tally.Tally[int] // by slot
	queue    []string         // orders that shall come into the log
	clock    int
	heard    int                         // how many values the other server has applied, as it said last
	behind   bool                        // whether it has said so since the last beat
	seeks    keep.Table[int, seek]       // by transaction
	rescues  keep.Table[string, attempt] // by the group of the vote

	votes    keep.Table[int, ballots] // by transaction whose outcome it has not found
	outcomes keep.Table[int, int]     // by transaction
	found    []api.Decision           // that nobody has asked for yet
}

// turn is a server that deals with one message, or one tick.
type turn struct {
	*Server
	send func(api.Message)
}

// New makes the server of that number, which has made no ballot.
func New(c api.Config, self int) *Server {
	place := self - plan.FirstServer(c)
	number := place / api.Servers
	s := &Server{config: c, self: self, number: number, group: plan.LogGroup(number), shard: shard.New(c, number)}
	s.other = plan.ServersOf(c, number) + 1 - place%api.Servers
	return s
}

// Take deals with a message.
func (s *Server) Take(m api.Message, send func(api.Message)) {
	t := turn{s, send}
	switch m.Kind {
	case api.Promise, api.Accepted, api.Reject:
		if plan.IsAcceptor(s.config, m.From) {
			t.hearAcceptor(m)
		}
	case api.Chosen, api.Beat:
		if m.From == s.other && m.Group == s.group {
			t.hearOther(m)
		}
	case api.Request:
		t.serve(m)
	}
}

// hearAcceptor deals with what an acceptor has answered, of the log or of a vote.
func (t turn) hearAcceptor(m api.Message) {
	if m.Group == t.group {
		switch m.Kind {
		case api.Promise:
			t.hearPromise(m)
		case api.Accepted:
			t.hearAccepted(m)
		case api.Reject:
			t.hearReject(m)
		}
		return
	}
	tx, number, is := plan.VoteOf(t.config, m.Group)
	if !is {
		return
	}
	switch m.Kind {
	case api.Promise:
		t.rescue(m, tx, number)
	case api.Accepted:
		t.count(m, tx, number)
	case api.Reject:
		t.notePromised(m)
	}
}

// Tick: the clock goes on.
func (s *Server) Tick(send func(api.Message)) {
	t := turn{s, send}
	if s.role == leading {
		t.leadOn()
		return
	}
	if s.quiet++; s.quiet >= s.patience() {
		t.stand()
	}
}

// to sends a message to a node.
func (t turn) to(node int, m api.Message) {
	m.From, m.To = t.self, node
	t.send(m)
}

func (t turn) toAcceptors(m api.Message) {
	for a := range plan.FirstServer(t.config) {
		t.to(a, m)
	}
}

// Applied tells what the server has applied, from slot 0 on, as copies.
func (s *Server) Applied() []string {
	var list []string
	for _, value := range s.log {
		list = append(list, strings.Clone(value))
	}
	return list
}

// Held tells the transactions that hold or await a lock, rising.
func (s *Server) Held() []int { return s.shard.Held() }

// Outcomes tells the outcomes that the server knows, by the transactions' numbers.
func (s *Server) Outcomes() []api.Decision {
	var list []api.Decision
	for tx, outcome := range s.outcomes.All() {
		list = append(list, api.Decision{Tx: tx, Outcome: outcome})
	}
	return list
}

// PullFound tells the outcomes that were found since it was asked last, in order.
func (s *Server) PullFound() []api.Decision {
	list := slices.Clone(s.found)
	s.found = nil
	return list
}

// Stored tells the round of the last ballot.
func (s *Server) Stored() string {
	var w record.Writer
	w.Number(s.round)
	return w.String()
}

// Load stores what Stored has told. If it is none of that, it panics with a record.Fault.
func (s *Server) Load(text string) {
	s.round = record.Read(text).Number(maxRound)
}
