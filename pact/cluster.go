package pact

import (
	"slices"

	"pact/api"
	"pact/bag"
	"pact/plan"
)

// Cluster is all nodes, and the net between them.
type Cluster struct {
	config api.Config
	nodes  []node
	bag    bag.Bag

	history []api.Event
	decided []api.Decision
}

// New makes a cluster (P10).
func New(c api.Config) (*Cluster, api.Errno) {
	if !plan.Fits(c) {
		return nil, api.ErrArg
	}
	x := &Cluster{config: c}
	for number := range plan.Nodes(c) {
		x.nodes = append(x.nodes, node{fresh(c, number), true})
	}
	return x, api.OK
}

// Reopen makes a cluster of what its nodes have stored (P24).
func Reopen(c api.Config, stored []string) (x *Cluster, e api.Errno) {
	if !plan.Fits(c) || len(stored) != plan.Nodes(c) {
		return nil, api.ErrArg
	}
	defer func() {
		if recover() != nil {
			x, e = nil, api.ErrArg
		}
	}()
	x = &Cluster{config: c}
	for number, text := range stored {
		x.nodes = append(x.nodes, node{loaded(c, number, text), true})
	}
	return x, api.OK
}

// Do does a step of a script (P11 to P16).
func (x *Cluster) Do(s api.Step) {
	if x == nil {
		return
	}
	switch s.Kind {
	case api.Begin, api.Get, api.Put, api.Commit, api.Abort:
		x.call(s)
	case api.Deliver:
		x.deliver(s.A)
	case api.Drop:
		x.bag.Pull(s.A)
	case api.Copy:
		x.bag.Copy(s.A)
	case api.Flip:
		x.bag.Flip(s.A, s.B)
	case api.Tick:
		x.tick(s.A)
	case api.Crash:
		x.crash(s.A)
	case api.Restart:
		x.restart(s.A)
	case api.Break:
		x.breakAt(s.A, s.B != 0)
	case api.Round:
		x.round()
	case api.Inject:
		x.inject(s.A, s.S)
	}
}

// Bag tells the packets that are on their way.
func (x *Cluster) Bag() []string {
	if x == nil {
		return nil
	}
	return x.bag.Tell()
}

// History tells the calls of the clients and their answers.
func (x *Cluster) History() []api.Event {
	if x == nil {
		return nil
	}
	return slices.Clone(x.history)
}

// Decided tells what was decided, in order (P20).
func (x *Cluster) Decided() []api.Decision {
	if x == nil {
		return nil
	}
	return slices.Clone(x.decided)
}

// Outcomes tells what a node knows of transactions, by their numbers (P19).
func (x *Cluster) Outcomes(node int) []api.Decision {
	if !x.has(node) {
		return nil
	}
	return outcomes(x.nodes[node].machine)
}

// Applied tells what a server has applied of its shard's log, in order (P18).
func (x *Cluster) Applied(node int) []string {
	if !x.has(node) {
		return nil
	}
	return applied(x.nodes[node].machine)
}

// Held tells the transactions that hold or await locks at a server (P22).
func (x *Cluster) Held(node int) []int {
	if !x.has(node) {
		return nil
	}
	return held(x.nodes[node].machine)
}

// Stored tells what a node has stored, as a text (P24).
func (x *Cluster) Stored(node int) string {
	if !x.has(node) {
		return ""
	}
	return x.nodes[node].machine.Stored()
}

// State tells all that a node knows, as a text (P12).
func (x *Cluster) State(node int) string {
	if !x.has(node) {
		return ""
	}
	return x.nodes[node].machine.State()
}

func (x *Cluster) has(number int) bool {
	return x != nil && 0 <= number && number < len(x.nodes)
}
