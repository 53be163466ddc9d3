package pact

import (
	"slices"
	"sync"

	"pact/api"
	"pact/plan"
)

// take lets a node that is up deal with a message; what it sends is in the bag then.
func (x *Cluster) take(m api.Message) {
	x.nodes[m.To].machine.Take(m, sender(x.bag.Send))
	x.gather(m.To)
}

// call lets a client do its step.
func (x *Cluster) call(s api.Step) {
	if s.A < 0 || s.A >= x.config.Clients {
		return
	}
	number := plan.FirstClient(x.config) + s.A
	if c, ok := x.nodes[number].machine.(caller); ok {
		c.Do(s, sender(x.bag.Send))
	}
	x.gather(number)
}

// gather notes what a node has found and what it was answered. It must be done whenever a node has done something, and ahead of its crash: so both stand in the order in which they came about.
func (x *Cluster) gather(number int) {
	m := x.nodes[number].machine
	if c, ok := m.(caller); ok {
		x.history = append(x.history, c.PullEvents()...)
	}
	if f, ok := m.(finder); ok {
		for _, d := range f.PullFound() {
			x.decide(d)
		}
	}
}

// decide notes an outcome that a node has found, if no other one has before.
func (x *Cluster) decide(d api.Decision) {
	if !slices.ContainsFunc(x.decided, func(was api.Decision) bool { return was.Tx == d.Tx }) {
		x.decided = append(x.decided, d)
	}
}

func (x *Cluster) isUp(number int) bool {
	return x.has(number) && x.nodes[number].up
}

// canCrash says whether a node is an acceptor or server.
func (x *Cluster) canCrash(number int) bool {
	return x.has(number) && number < plan.FirstClient(x.config)
}

// pull takes a packet out of the bag, and tells the message that it is, if that comes to a node that is up.
func (x *Cluster) pull(at int) (api.Message, bool) {
	packet, is := x.bag.Pull(at)
	if !is {
		return api.Message{}, false
	}
	m, e := Decode(packet)
	return m, e == api.OK && x.isUp(m.To)
}

func (x *Cluster) deliver(at int) {
	if m, comes := x.pull(at); comes {
		x.take(m)
	}
}

func (x *Cluster) inject(number int, bytes string) {
	m, e := Decode(bytes)
	if e == api.OK && m.To == number && x.isUp(number) {
		x.take(m)
	}
}

func (x *Cluster) tick(number int) {
	if x.isUp(number) {
		x.nodes[number].machine.Tick(sender(x.bag.Send))
		x.gather(number)
	}
}

// crash: a node that is down knows no more than what it has stored.
func (x *Cluster) crash(number int) {
	if x.canCrash(number) && x.isUp(number) {
		stored := x.nodes[number].machine.Stored()
		x.nodes[number] = node{loaded(x.config, number, stored), false}
	}
}

func (x *Cluster) restart(number int) {
	if x.canCrash(number) {
		x.nodes[number].up = true
	}
}

// breakAt lets a packet come to its node, which crashes over it: behind storing, or ahead of it.
func (x *Cluster) breakAt(at int, behind bool) {
	m, comes := x.pull(at)
	if !comes {
		return
	}
	if !x.canCrash(m.To) {
		x.take(m)
		return
	}
	if behind {
		x.nodes[m.To].machine.Take(m, func(api.Message) {})
		x.gather(m.To)
	}
	x.crash(m.To)
}

// round lets each node deal with its packets in a goroutine of its own. A node reads its own mail and writes its own row of sent alone: what comes out hangs on no schedule.
func (x *Cluster) round() {
	mail := x.sort(x.bag.PullAll())
	sent := make([][]string, len(x.nodes))
	var all sync.WaitGroup
	for number := range x.nodes {
		all.Add(1)
		go func() {
			defer all.Done()
			sent[number] = x.nodes[number].round(mail[number])
		}()
	}
	all.Wait()
	for number, packets := range sent {
		for _, packet := range packets {
			x.bag.Send(packet)
		}
		x.gather(number)
	}
}

// sort tells by node the messages that come to it, in the order of the packets.
func (x *Cluster) sort(packets []string) [][]api.Message {
	mail := make([][]api.Message, len(x.nodes))
	for _, packet := range packets {
		if m, e := Decode(packet); e == api.OK && x.has(m.To) {
			mail[m.To] = append(mail[m.To], m)
		}
	}
	return mail
}
