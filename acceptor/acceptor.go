// Package acceptor: the nodes that promise ballots and accept values, and store both.
package acceptor

import (
	"pact/api"
	"pact/keep"
	"pact/plan"
	"pact/record"
	"pact/wire"
)

// group is what is stored of a group.
type group struct {
	promised int
	accepted keep.Table[int, api.Entry] // by slot
}

// Acceptor is an acceptor. All that it knows is stored.
type Acceptor struct {
	config api.Config
	self   int
	groups keep.Table[string, group] // those of which there is something to know
}

// New makes the acceptor of that number, with nothing stored.
func New(c api.Config, self int) *Acceptor {
	return &Acceptor{config: c, self: self}
}

// Take deals with a message.
func (a *Acceptor) Take(m api.Message, send func(api.Message)) {
	if m.Kind != api.Prepare && m.Kind != api.Accept {
		return
	}
	// Whatever way the message takes, the answer tells what is stored by then: a crash behind it takes nothing back.
	defer a.answer(m, send)
	if m.Ballot < a.promised(m.Group) {
		return
	}
	a.promise(m.Group, m.Ballot)
	if m.Kind == api.Accept {
		a.accept(m.Group, api.Entry{Slot: m.Slot, Ballot: m.Ballot, Value: m.Value})
	}
}

// Tick: an acceptor has no use for its clock.
func (a *Acceptor) Tick(send func(api.Message)) {}

func (a *Acceptor) promised(name string) int { return a.groups.Get(name).promised }

// promise stores a ballot that is not below the promised one. The same one again is nothing new: so the ballot 0, which needs no promise, makes no group known.
func (a *Acceptor) promise(name string, ballot int) {
	if ballot > a.promised(name) {
		a.groups.At(name).promised = ballot
	}
}

// accept stores what is accepted, in the place of what was accepted in that slot before.
func (a *Acceptor) accept(name string, e api.Entry) {
	*a.groups.At(name).accepted.At(e.Slot) = e
}

// answer sends what a message is answered, by what is stored: a ballot that was not refused is the promised one now.
func (a *Acceptor) answer(m api.Message, send func(api.Message)) {
	reply := api.Message{From: a.self, To: m.From, Group: m.Group, Ballot: a.promised(m.Group)}
	switch {
	case m.Ballot < reply.Ballot:
		reply.Kind = api.Reject
	case m.Kind == api.Prepare:
		reply.Kind = api.Promise
		reply.List = entries(a.groups.Get(m.Group))
	default:
		reply.Kind = api.Accepted
		reply.Slot, reply.Value = m.Slot, m.Value
	}
	if reply.Kind == api.Accepted && plan.IsVote(m.Group) {
		a.sendToServers(reply, send)
		return
	}
	send(reply)
}

func (a *Acceptor) sendToServers(m api.Message, send func(api.Message)) {
	for to := plan.FirstServer(a.config); to < plan.FirstClient(a.config); to++ {
		m.To = to
		send(m)
	}
}

// entries tells what is accepted in a group, by slot.
func entries(g group) []api.Entry {
	var list []api.Entry
	for _, e := range g.accepted.All() {
		list = append(list, e)
	}
	return list
}

// State tells all that the acceptor knows.
func (a *Acceptor) State() string { return a.Stored() }

// Stored tells by group: its name, the promised ballot, how many slots have something accepted; and these, each with its ballot and value.
func (a *Acceptor) Stored() string {
	var w record.Writer
	for name, g := range a.groups.All() {
		list := entries(g)
		w.Text(name)
		w.Number(g.promised)
		w.Number(len(list))
		for _, e := range list {
			w.Number(e.Slot)
			w.Number(e.Ballot)
			w.Text(e.Value)
		}
	}
	return w.String()
}

// Load stores what Stored has told. If it is none of that, it panics with a record.Fault.
func (a *Acceptor) Load(text string) {
	last := ""
	for r := record.Read(text); r.More(); {
		m := readGroup(r)
		if !wire.Sendable(m) || m.Group <= last {
			record.GiveUp("a group that no messages can have made, or not in its place")
		}
		last = m.Group
		a.promise(m.Group, m.Ballot)
		for _, e := range m.List {
			a.accept(m.Group, e)
		}
	}
}

// readGroup reads a group as a Promise, which has all that there is to know of one.
func readGroup(r *record.Reader) api.Message {
	m := api.Message{Kind: api.Promise, Group: r.Text(), Ballot: r.Number(api.MaxBallot)}
	for range r.Number(api.MaxSlot + 1) {
		m.List = append(m.List, api.Entry{
			Slot:   r.Number(api.MaxSlot),
			Ballot: r.Number(m.Ballot),
			Value:  r.Text(),
		})
	}
	return m
}
