package pact

import (
	"pact/acceptor"
	"pact/api"
	"pact/client"
	"pact/plan"
	"pact/record"
	"pact/server"
)

// machine is a node as a step machine: it shares nothing with the others, and hands what it sends to send.
type machine interface {
	Take(m api.Message, send func(api.Message))
	Tick(send func(api.Message))
	State() string
	Stored() string
	Load(text string)
}

// node is a node of a cluster.
type node struct {
	machine machine // while the node is down, what it begins again as
	up      bool
}

// fresh makes the machine of a node that has nothing stored.
func fresh(c api.Config, number int) machine {
	switch {
	case number < plan.FirstServer(c):
		return acceptor.New(c, number)
	case number < plan.FirstClient(c):
		return server.New()
	}
	return client.New()
}

// loaded makes the machine of a node that has that text stored. A text that no such node tells makes it panic with a record.Fault.
func loaded(c api.Config, number int, text string) machine {
	m := fresh(c, number)
	m.Load(text)
	if m.Stored() != text {
		record.GiveUp("a text that is told otherwise")
	}
	return m
}

// sender hands on the packet of each message that is sent.
func sender(lay func(packet string)) func(api.Message) {
	return func(m api.Message) {
		if packet, e := Encode(m); e == api.OK {
			lay(packet)
		}
	}
}

// round deals with all packets of a node, and lets its clock go on; what it sends.
func (n *node) round(mail []api.Message) []string {
	if !n.up {
		return nil
	}
	var sent []string
	send := sender(func(packet string) { sent = append(sent, packet) })
	for _, m := range mail {
		n.machine.Take(m, send)
	}
	n.machine.Tick(send)
	return sent
}
