package pact

import (
	"fmt"
	"slices"
	"sync"
	"testing"
	"time"

	"pact/api"
	"pact/plan"
)

// spy is a machine that writes down what comes to it, and sends a Beat for each.
type spy struct {
	machine
	self  int
	seen  []string
	begin func() // done ahead of each tick
}

func (s *spy) note(what string, send func(api.Message)) {
	s.seen = append(s.seen, what)
	send(api.Message{Kind: api.Beat, From: s.self, To: 40, Group: "g", Slot: len(s.seen)})
}

func (s *spy) Take(m api.Message, send func(api.Message)) {
	s.note(fmt.Sprintf("slot %d", m.Slot), send)
}

func (s *spy) Tick(send func(api.Message)) {
	if s.begin != nil {
		s.begin()
	}
	s.note("tick", send)
}

// watched: a cluster of spies.
func watched(t *testing.T) (*Cluster, []*spy) {
	t.Helper()
	c := api.Config{F: 1, Shards: 2, Clients: 2}
	x, _ := New(c)
	var spies []*spy
	for number := range plan.Nodes(c) {
		s := &spy{machine: x.nodes[number].machine, self: number}
		x.nodes[number].machine = s
		spies = append(spies, s)
	}
	return x, spies
}

// lay puts a Beat with that slot into the bag.
func lay(x *Cluster, to, slot int) {
	sender(x.bag.Send)(api.Message{Kind: api.Beat, To: to, Group: "g", Slot: slot})
}

func saw(t *testing.T, what string, s *spy, want ...string) {
	t.Helper()
	if !slices.Equal(s.seen, want) {
		t.Errorf("%s: node %d has seen %q, want %q", what, s.self, s.seen, want)
	}
}

// sent: of what is in the bag from whom it is, and how much that node had seen.
func sent(t *testing.T, what string, x *Cluster, want ...string) {
	t.Helper()
	var list []string
	for _, s := range x.Bag() {
		m, _ := Decode(s)
		list = append(list, fmt.Sprintf("%d.%d", m.From, m.Slot))
	}
	if !slices.Equal(list, want) {
		t.Errorf("%s: the bag has %q, want %q", what, list, want)
	}
}

func TestRoundOfAllKindsOfNodes(t *testing.T) {
	x, spies := watched(t)
	x.nodes[1].up, x.nodes[4].up = false, false
	for slot, to := range []int{8, 0, 4, 3, 8, 1, 20, 3, 8} {
		lay(x, to, slot)
	}
	x.Do(api.Step{Kind: api.Flip, A: 7})
	x.Do(api.Step{Kind: api.Round})
	saw(t, "P14", spies[0], "slot 1", "tick")
	saw(t, "P14: a node that is down", spies[1])
	saw(t, "P14", spies[2], "tick")
	saw(t, "P14: a packet is spoilt", spies[3], "slot 3", "tick")
	saw(t, "P14: a server that is down", spies[4])
	saw(t, "P14", spies[7], "tick")
	saw(t, "P14: a client", spies[8], "slot 0", "slot 4", "slot 8", "tick")
	sent(t, "P14", x, "0.1", "0.2", "2.1", "3.1", "3.2", "5.1", "6.1", "7.1", "8.1", "8.2", "8.3", "8.4")
}

// Each node deals with its packets in a goroutine of its own: here none goes on before all have come.
func TestRoundGoesOnAtTheSameTime(t *testing.T) {
	x, spies := watched(t)
	var all sync.WaitGroup
	all.Add(len(spies))
	for _, s := range spies {
		s.begin = func() { all.Done(); all.Wait() }
	}
	done := make(chan int)
	go func() {
		x.Do(api.Step{Kind: api.Round})
		close(done)
	}()
	select {
	case <-done:
	case <-time.After(20 * time.Second):
		t.Fatal("Ways: a node waits for another's part of a Round")
	}
	sent(t, "P14", x, "0.1", "1.1", "2.1", "3.1", "4.1", "5.1", "6.1", "7.1", "8.1")
}

func TestTick(t *testing.T) {
	x, spies := watched(t)
	x.nodes[3].up = false
	for _, a := range []int{0, 3, 4, 7, 9, -1} {
		x.Do(api.Step{Kind: api.Tick, A: a})
	}
	sent(t, "P13: Tick", x, "0.1", "4.1", "7.1")
	saw(t, "P13: Tick", spies[4], "tick")
	saw(t, "P13: Tick of one that is down", spies[3])
}

// A client does not crash, and what it knows is not forgotten.
func TestClientsDoNotCrash(t *testing.T) {
	x, spies := watched(t)
	for a := range spies {
		x.Do(api.Step{Kind: api.Crash, A: a})
		if x.nodes[a].up != (a >= 7) || (x.nodes[a].machine == spies[a]) != (a >= 7) {
			t.Errorf("P13: Crash of node %d: up %v", a, x.nodes[a].up)
		}
		x.Do(api.Step{Kind: api.Restart, A: a})
		if !x.nodes[a].up {
			t.Errorf("P13: Restart of node %d", a)
		}
	}
}

func TestBreakOfEachKindOfNode(t *testing.T) {
	for b, want := range [][]string{{}, {"slot 5"}} {
		x, spies := watched(t)
		for _, to := range []int{1, 6} {
			lay(x, to, 5)
			x.Do(api.Step{Kind: api.Break, B: b})
			sent(t, "P15: nothing is sent", x)
			saw(t, "P15", spies[to], want...)
			if x.nodes[to].up || x.nodes[to].machine == spies[to] {
				t.Errorf("P15: node %d has not crashed", to)
			}
		}
		lay(x, 7, 5)
		x.Do(api.Step{Kind: api.Break, B: b})
		sent(t, "P15: to a client it is Deliver", x, "7.1")
		saw(t, "P15: to a client it is Deliver", spies[7], "slot 5")
		if !x.nodes[7].up || x.nodes[7].machine != spies[7] {
			t.Errorf("P15: a client has crashed")
		}
	}
}
