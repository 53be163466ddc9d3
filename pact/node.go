package pact

import (
	"pact/acceptor"
	"pact/api"
	"pact/client"
	"pact/plan"
	"pact/record"
	"pact/server"
)

// machine is a node as a step machine: it shares nothing with the others, and hands what it sends to send.
type machine interface {
	Take(m api.Message, send func(api.Message))
	Tick(send func(api.Message))
	State() string
	Stored() string
	Load(text string)
}

// finder is a machine that finds outcomes: a server or client.
type finder interface {
	Outcomes() []api.Decision
	PullFound() []api.Decision
}

// caller is a machine that makes calls: a client.
type caller interface {
	Do(s api.Step, send func(api.Message))
	PullEvents() []api.Event
}

// applier is a machine that applies a log: a server.
type applier interface {
	Applied() []string
	Held() []int
}

func outcomes(m machine) []api.Decision {
	if f, ok := m.(finder); ok {
		return f.Outcomes()
	}
	return nil
}

func applied(m machine) []string {
	if a, ok := m.(applier); ok {
		return a.Applied()
	}
	return nil
}

func held(m machine) []int {
	if a, ok := m.(applier); ok {
		return a.Held()
	}
	return nil
}

// node is a node of a cluster.
type node struct {
	machine machine // while the node is down, what it begins again as
	up      bool
}

// fresh makes the machine of a node that has nothing stored.
func fresh(c api.Config, number int) machine {
	switch {
	case number < plan.FirstServer(c):
		return acceptor.New(c, number)
	case number < plan.FirstClient(c):
		return server.New(c, number)
	}
	return client.New(c, number)
}

// loaded makes the machine of a node that has that text stored. A text that no such node tells makes it panic with a record.Fault.
func loaded(c api.Config, number int, text string) machine {
	m := fresh(c, number)
	m.Load(text)
	if m.Stored() != text {
		record.GiveUp("a text that is told otherwise")
	}
	return m
}

// sender hands on the packet of each message that is sent.
func sender(lay func(packet string)) func(api.Message) {
	return func(m api.Message) {
		if packet, e := Encode(m); e == api.OK {
			lay(packet)
		}
	}
}

// round deals with all packets of a node, and lets its clock go on; what it sends.
func (n *node) round(mail []api.Message) []string {
	if !n.up {
		return nil
	}
	var sent []string
	send := sender(func(packet string) { sent = append(sent, packet) })
	for _, m := range mail {
		n.machine.Take(m, send)
	}
	n.machine.Tick(send)
	return sent
}
