package pact_test

import (
	"fmt"
	"slices"
	"strings"
	"testing"

	"pact/api"
	"pact/pact"
)

// begun: a new cluster.
func begun(t *testing.T, f, shards, clients int) *pact.Cluster {
	t.Helper()
	x, e := pact.New(api.Config{F: f, Shards: shards, Clients: clients})
	if x == nil || e != api.OK {
		t.Fatalf("P10: New of {%d, %d, %d}: %v, %d", f, shards, clients, x, e)
	}
	return x
}

// named: a message in short: its kind, from whom to whom, its group, ballot, slot and value, and its list.
func named(m api.Message) string {
	kind := []string{"spoilt", "prepare", "promise", "accept", "accepted", "reject", "chosen", "beat", "request", "reply"}[m.Kind]
	s := fmt.Sprintf("%s %d>%d %s %d", kind, m.From, m.To, m.Group, m.Ballot)
	if m.Kind == api.Accept || m.Kind == api.Accepted {
		s += fmt.Sprintf(" %d=%s", m.Slot, m.Value)
	}
	for _, e := range m.List {
		s += fmt.Sprintf(" %d:%d=%s", e.Slot, e.Ballot, e.Value)
	}
	return s
}

// packets: what the bag holds, in short.
func packets(x *pact.Cluster) []string {
	list := []string{}
	for _, s := range x.Bag() {
		m, _ := pact.Decode(s)
		if m.Kind == 0 {
			list = append(list, "spoilt")
			continue
		}
		list = append(list, named(m))
	}
	return list
}

func holds(t *testing.T, what string, x *pact.Cluster, want ...string) {
	t.Helper()
	if got := packets(x); !slices.Equal(got, want) {
		t.Errorf("%s: the bag has %q, want %q", what, got, want)
	}
}

func do(x *pact.Cluster, kind, a, b int) { x.Do(api.Step{Kind: kind, A: a, B: b}) }

func inject(t *testing.T, x *pact.Cluster, m api.Message) {
	t.Helper()
	x.Do(api.Step{Kind: api.Inject, A: m.To, S: encoded(t, m)})
}

// empty drops all packets.
func empty(x *pact.Cluster) {
	for len(x.Bag()) > 0 {
		do(x, api.Drop, 0, 0)
	}
}

// turn turns the bits of a packet till it has these bytes.
func turn(t *testing.T, x *pact.Cluster, at int, into string) {
	t.Helper()
	was := x.Bag()[at]
	if len(was) != len(into) {
		t.Fatalf("a packet of %d bytes cannot be turned into one of %d", len(was), len(into))
	}
	for bit := range 8 * len(into) {
		if (was[bit/8]^into[bit/8])>>(bit%8)&1 == 1 {
			do(x, api.Flip, at, bit)
		}
	}
	if got := x.Bag()[at]; got != into {
		t.Fatalf("P12: Flip: %x, want %x", got, into)
	}
}

// lay: messages that no node sends of itself come into the bag: an acceptor is made to send one of the same length, of the group zz, and its bits are turned.
func lay(t *testing.T, x *pact.Cluster, list ...api.Message) {
	t.Helper()
	for _, m := range list {
		s := encoded(t, m)
		group := min(len(s)-16, api.MaxGroup)
		n := len(x.Bag())
		inject(t, x, api.Message{Kind: api.Accept, Group: strings.Repeat("z", group), Value: strings.Repeat("z", len(s)-16-group)})
		if len(x.Bag()) != n+1 {
			t.Fatalf("P17: an acceptor sends nothing: %q", packets(x))
		}
		turn(t, x, n, s)
	}
}

func TestNewOfNone(t *testing.T) {
	list := []api.Config{{F: 2, Shards: 1, Clients: 1}, {F: -1, Shards: 1, Clients: 1}, {F: 0, Shards: 0, Clients: 1}, {F: 1, Shards: 4, Clients: 1}, {F: 0, Shards: 1, Clients: 0}, {F: 1, Shards: 3, Clients: 4}, {}}
	for _, n := range wild() {
		list = append(list, api.Config{F: n, Shards: 1, Clients: 1}, api.Config{F: 0, Shards: n, Clients: 1}, api.Config{F: 0, Shards: 1, Clients: n}, api.Config{F: n, Shards: n, Clients: n})
	}
	for _, c := range list {
		if x, e := pact.New(c); x != nil || e != api.ErrArg {
			t.Errorf("P10: New(%+v): %v, %d, want ErrArg", c, x, e)
		}
		if x, e := pact.Reopen(c, make([]string, 4)); x != nil || e != api.ErrArg {
			t.Errorf("P24: Reopen(%+v): %v, %d, want ErrArg", c, x, e)
		}
	}
}

// Each node is there and up: acceptors promise; a vote goes to the servers; those and the clients have something stored, and there is no node behind them.
func TestNewHasAllNodes(t *testing.T) {
	for f := range 2 {
		for shards := 1; shards <= 3; shards++ {
			for clients := 1; clients <= 3; clients++ {
				checkNew(t, begun(t, f, shards, clients), 2*f+1, 2*shards, clients)
			}
		}
	}
}

func checkNew(t *testing.T, x *pact.Cluster, acceptors, servers, clients int) {
	t.Helper()
	if len(x.Bag()) != 0 || len(x.History()) != 0 || len(x.Decided()) != 0 {
		t.Errorf("P10: a new cluster has %q, %v, %v", x.Bag(), x.History(), x.Decided())
	}
	do(x, api.Round, 0, 0)
	empty(x)
	nodes := acceptors + servers + clients
	for a := range nodes + 2 {
		inject(t, x, api.Message{Kind: api.Prepare, From: 9, To: a, Group: "s7", Ballot: 64})
		want := []string{}
		if a < acceptors {
			want = append(want, fmt.Sprintf("promise %d>9 s7 64", a))
		}
		holds(t, "P10: node "+fmt.Sprint(a), x, want...)
		empty(x)
	}
	want := []string{}
	for s := range servers {
		want = append(want, fmt.Sprintf("accepted 0>%d v4.0 0 0=A", acceptors+s))
	}
	inject(t, x, api.Message{Kind: api.Accept, From: 9, Group: "v4.0", Value: "A"})
	holds(t, "P17: a vote", x, want...)
	for a := acceptors; a < nodes; a++ {
		if x.Stored(a) == "" || x.State(a) == "" {
			t.Errorf("P24: node %d tells nothing", a)
		}
	}
	for _, a := range append(wild(), nodes, nodes+1) {
		if x.Stored(a)+x.State(a) != "" || len(x.Outcomes(a))+len(x.Applied(a))+len(x.Held(a)) != 0 {
			t.Errorf("P1: node %d, which is none, tells something", a)
		}
	}
}

func TestClusterThatIsNone(t *testing.T) {
	for what, c := range map[string]*pact.Cluster{"nil": nil, "one that nobody made": {}} {
		for kind := -1; kind <= 17; kind++ {
			c.Do(api.Step{Kind: kind})
			c.Do(api.Step{Kind: kind, S: encoded(t, api.Message{Kind: api.Prepare, Group: "s0"})})
		}
		if len(c.Bag()) != 0 || len(c.History()) != 0 || len(c.Decided()) != 0 || len(c.Outcomes(0)) != 0 {
			t.Errorf("P1: a cluster (%s) tells something", what)
		}
		if len(c.Applied(0)) != 0 || len(c.Held(0)) != 0 || c.State(0) != "" || c.Stored(0) != "" {
			t.Errorf("P1: a cluster (%s) tells something of a node", what)
		}
	}
}

// three: a cluster of three acceptors whose bag holds three promises.
func three(t *testing.T) *pact.Cluster {
	t.Helper()
	x := begun(t, 1, 1, 1)
	for a := range 3 {
		inject(t, x, api.Message{Kind: api.Prepare, From: 3, To: a, Group: "s0", Ballot: 67})
	}
	holds(t, "P16", x, "promise 0>3 s0 67", "promise 1>3 s0 67", "promise 2>3 s0 67")
	return x
}

func TestDropCopyFlip(t *testing.T) {
	x := three(t)
	do(x, api.Copy, 1, 0)
	holds(t, "P12: Copy of 1", x, "promise 0>3 s0 67", "promise 1>3 s0 67", "promise 2>3 s0 67", "promise 1>3 s0 67")
	do(x, api.Flip, 1, 0)
	holds(t, "P12: Flip of 1, not of its copy", x, "promise 0>3 s0 67", "spoilt", "promise 2>3 s0 67", "promise 1>3 s0 67")
	do(x, api.Drop, 0, 0)
	holds(t, "P12: Drop of 0", x, "spoilt", "promise 2>3 s0 67", "promise 1>3 s0 67")
	do(x, api.Drop, 2, 0)
	holds(t, "P12: Drop of the last", x, "spoilt", "promise 2>3 s0 67")
	do(x, api.Flip, 0, 0)
	holds(t, "P12: Flip back", x, "promise 1>3 s0 67", "promise 2>3 s0 67")
}

func TestFlipTurnsTheBitThatItNames(t *testing.T) {
	x := three(t)
	was := x.Bag()
	for bit := range 8 * len(was[1]) {
		do(x, api.Flip, 1, bit)
		want := []byte(was[1])
		want[bit/8] ^= 1 << (bit % 8)
		if got := x.Bag(); got[1] != string(want) || got[0] != was[0] || got[2] != was[2] {
			t.Fatalf("P12: Flip of bit %d: %x, want %x", bit, got[1], want)
		}
		do(x, api.Flip, 1, bit)
	}
	for _, bit := range append(wild(), 8*len(was[1]), -8) {
		do(x, api.Flip, 1, bit)
		if got := x.Bag(); !slices.Equal(got, was) {
			t.Fatalf("P12: Flip of bit %d, which is none: %x", bit, got)
		}
	}
}

// all that a cluster tells, as one text.
func all(x *pact.Cluster, nodes int) string {
	s := fmt.Sprintf("%q %v %v", x.Bag(), x.History(), x.Decided())
	for a := range nodes {
		s += fmt.Sprintf("\n%d: %q %q %v %q %v", a, x.State(a), x.Stored(a), x.Outcomes(a), x.Applied(a), x.Held(a))
	}
	return s
}

func TestStepsThatCannotBe(t *testing.T) {
	x := three(t)
	do(x, api.Crash, 2, 0)
	was := all(x, 6)
	same := func(s api.Step) {
		t.Helper()
		if x.Do(s); all(x, 6) != was {
			t.Fatalf("P11: the step %+v, which cannot be, does something: %s\nwant %s", s, all(x, 6), was)
		}
	}
	for _, a := range append(wild(), 6, 7, -2) {
		for _, k := range []int{api.Deliver, api.Drop, api.Copy, api.Flip, api.Break, api.Tick, api.Crash, api.Restart} {
			same(api.Step{Kind: k, A: a})
			same(api.Step{Kind: k, A: a, B: 1, C: a, S: "s"})
		}
		same(api.Step{Kind: api.Inject, A: a, S: encoded(t, api.Message{Kind: api.Prepare, Group: "s0", Ballot: 99})})
		same(api.Step{Kind: a + 20})
	}
	for _, k := range []int{0, -1, 16} {
		same(api.Step{Kind: k})
	}
	same(api.Step{Kind: api.Tick, A: 2})
	same(api.Step{Kind: api.Crash, A: 2})
	same(api.Step{Kind: api.Restart, A: 1})
	for _, k := range []int{api.Crash, api.Restart} { // a client does neither
		same(api.Step{Kind: k, A: 5})
	}
	same(api.Step{Kind: api.Inject, A: 2, S: encoded(t, api.Message{Kind: api.Prepare, To: 2, Group: "s0", Ballot: 99})})
}

func TestInject(t *testing.T) {
	x := three(t)
	was := all(x, 6)
	good := encoded(t, api.Message{Kind: api.Prepare, From: 4, To: 1, Group: "s0", Ballot: 128})
	for _, s := range []string{"", "M", good[:len(good)-1], good + "\x00", flipped(good, 5, 1)} {
		if x.Do(api.Step{Kind: api.Inject, A: 1, S: s}); all(x, 6) != was {
			t.Fatalf("P16: Inject of %x, which is no message, does something", s)
		}
	}
	for _, a := range []int{0, 2, 3, 5, 63} {
		if x.Do(api.Step{Kind: api.Inject, A: a, S: good}); all(x, 6) != was {
			t.Fatalf("P16: Inject to %d of what goes to 1 does something", a)
		}
	}
	x.Do(api.Step{Kind: api.Inject, A: 1, S: good})
	holds(t, "P16: Inject", x, "promise 0>3 s0 67", "promise 1>3 s0 67", "promise 2>3 s0 67", "promise 1>4 s0 128")
}

// A full bag takes no more, but what leaves it makes room.
func TestFullBag(t *testing.T) {
	x := begun(t, 0, 3, 1)
	for n := range api.MaxBag {
		inject(t, x, api.Message{Kind: api.Prepare, From: 1, Group: "s0", Ballot: n})
	}
	was := x.Bag()
	if len(was) != api.MaxBag || packets(x)[api.MaxBag-1] != "promise 0>1 s0 1999" {
		t.Fatalf("P12: a bag of %d packets, the last %x", len(was), was[len(was)-1])
	}
	do(x, api.Copy, 5, 0)
	inject(t, x, api.Message{Kind: api.Prepare, From: 1, Group: "s0", Ballot: 2000})
	if got := x.Bag(); !slices.Equal(got, was) {
		t.Fatalf("P12: a full bag takes more: %d packets", len(got))
	}
	do(x, api.Drop, 0, 0)
	inject(t, x, api.Message{Kind: api.Accept, From: 1, Group: "v4.0", Value: "P"})
	got := packets(x)
	if len(got) != api.MaxBag || got[api.MaxBag-2] != "promise 0>1 s0 1999" || got[api.MaxBag-1] != "accepted 0>1 v4.0 0 0=P" {
		t.Errorf("P12: into a bag with room for one come %q", got[len(got)-3:])
	}
	turn(t, x, 0, encoded(t, api.Message{Kind: api.Prepare, From: 3, Group: "s0", Ballot: 2001}))
	do(x, api.Deliver, 0, 0)
	if got := packets(x); len(got) != api.MaxBag || got[api.MaxBag-1] != "promise 0>3 s0 2001" {
		t.Errorf("P12: the answer to a packet of a full bag: %q", got[len(got)-2:])
	}
}

func TestDeliver(t *testing.T) {
	x := begun(t, 1, 1, 1)
	one := api.Message{Kind: api.Prepare, From: 3, To: 1, Group: "s0", Ballot: 67}
	two := api.Message{Kind: api.Accept, From: 4, To: 2, Group: "s0", Ballot: 68, Slot: 3, Value: "x"}
	far := api.Message{Kind: api.Prepare, From: 3, To: 40, Group: "s0", Ballot: 67}
	lay(t, x, one, two, far, one)
	do(x, api.Deliver, 1, 0)
	holds(t, "P12: Deliver of 1", x, named(one), named(far), named(one), "accepted 2>4 s0 68 3=x")
	do(x, api.Deliver, 1, 0)
	holds(t, "P12: Deliver to no node", x, named(one), named(one), "accepted 2>4 s0 68 3=x")
	do(x, api.Crash, 1, 0)
	do(x, api.Deliver, 0, 0)
	holds(t, "P12: Deliver to one that is down", x, named(one), "accepted 2>4 s0 68 3=x")
	do(x, api.Restart, 1, 0)
	was := x.State(1)
	do(x, api.Copy, 0, 0)
	do(x, api.Flip, 0, 50)
	do(x, api.Deliver, 0, 0)
	holds(t, "P12: Deliver of what is spoilt", x, "accepted 2>4 s0 68 3=x", named(one))
	if x.State(1) != was {
		t.Errorf("P12: what is spoilt changes a node: %q, was %q", x.State(1), was)
	}
	do(x, api.Deliver, 1, 0)
	holds(t, "P13: Deliver behind Restart", x, "accepted 2>4 s0 68 3=x", "promise 1>3 s0 67")
}

// What is no message changes no node, however it comes. (In a Round clocks go on too: there it is the acceptors that stay as they are.)
func TestSpoiltChangesNoNode(t *testing.T) {
	d := draw(12)
	x := begun(t, 1, 1, 1)
	for range 400 {
		inject(t, x, d.note())
		lay(t, x, d.note())
		at := len(x.Bag()) - 1
		bits := 8 * len(x.Bag()[at])
		first := d.next(bits)
		for bit := first; bit < min(bits, first+1+d.next(3)); bit++ {
			do(x, api.Flip, at, bit)
		}
		if m, e := pact.Decode(x.Bag()[at]); e == api.OK {
			t.Fatalf("P4: up to three bits were turned in %+v", m)
		}
		step, nodes := []int{api.Deliver, api.Break, api.Round}[d.next(3)], 6
		if step == api.Round {
			for range at {
				do(x, api.Drop, 0, 0)
			}
			nodes = 3
		}
		was := told(x, nodes)
		if do(x, step, at, d.next(2)); told(x, nodes) != was {
			t.Fatalf("P12: what is spoilt changes a node: %s, was %s", told(x, nodes), was)
		}
	}
}

// told: the states of all nodes.
func told(x *pact.Cluster, nodes int) string {
	s := ""
	for a := range nodes {
		s += fmt.Sprintf("%d: %q %q\n", a, x.State(a), x.Stored(a))
	}
	return s
}

// note: some message that an acceptor deals with, to one of three.
func (d *draw) note() api.Message {
	m := api.Message{Kind: api.Prepare, From: d.next(7), To: d.next(3), Group: []string{"s0", "s1", "v4.0", "v", "", "\"\xff v"}[d.next(6)], Ballot: d.next(300)}
	if m.Group == "" {
		m.Group = d.text(1 + d.next(3))
	}
	if d.next(2) == 0 {
		m.Kind, m.Slot, m.Value = api.Accept, d.next(4), d.text(d.next(4))
	}
	return m
}

func TestTickAndCrashAndRestart(t *testing.T) {
	x := begun(t, 1, 2, 1)
	for a := range 7 {
		was := x.Stored(a)
		do(x, api.Crash, a, 0)
		if x.Stored(a) != was {
			t.Errorf("P13: node %d has stored %q, and behind a crash %q", a, was, x.Stored(a))
		}
	}
	down := told(x, 8)
	for a := range 3 {
		inject(t, x, api.Message{Kind: api.Accept, To: a, Group: "s0", Ballot: 5, Value: "x"})
		do(x, api.Tick, a, 0)
	}
	do(x, api.Round, 0, 0)
	holds(t, "P13: all are down", x)
	if told(x, 8) != down {
		t.Errorf("P13: nodes that are down change: %s, was %s", told(x, 8), down)
	}
	do(x, api.Restart, 1, 0)
	for a := range 3 {
		inject(t, x, api.Message{Kind: api.Accept, To: a, Group: "s0", Ballot: 5, Value: "x"})
	}
	holds(t, "P13: 1 is up again", x, "accepted 1>0 s0 5 0=x")
	do(x, api.Crash, 1, 0)
	do(x, api.Crash, 1, 0)
	do(x, api.Restart, 1, 0)
	do(x, api.Restart, 1, 0)
	inject(t, x, api.Message{Kind: api.Prepare, To: 1, Group: "s0", Ballot: 6})
	holds(t, "P13: behind two crashes", x, "accepted 1>0 s0 5 0=x", "promise 1>0 s0 6 0:5=x")
}

// What the nodes send in a Round is the bag, by their numbers, each node's in the order of what came to it.
func TestRound(t *testing.T) {
	x := begun(t, 1, 1, 1)
	ask := func(from, to, ballot int) api.Message {
		return api.Message{Kind: api.Prepare, From: from, To: to, Group: "s0", Ballot: ballot}
	}
	lay(t, x, ask(3, 2, 67), ask(3, 0, 67), ask(4, 2, 68), ask(3, 50, 9), ask(3, 2, 67), ask(4, 1, 68), ask(4, 0, 66), ask(4, 0, 68), ask(4, 0, 68))
	do(x, api.Flip, 8, 30)
	do(x, api.Crash, 1, 0)
	do(x, api.Crash, 3, 0) // the servers' own sendings are not looked at here
	do(x, api.Crash, 4, 0)
	do(x, api.Round, 0, 0)
	holds(t, "P14", x, "promise 0>3 s0 67", "reject 0>4 s0 67", "promise 0>4 s0 68", "promise 2>3 s0 67", "promise 2>4 s0 68", "reject 2>3 s0 68")
}

// The bag of a Round takes up to MaxBag of what is sent, the first.
func TestRoundThatFillsTheBag(t *testing.T) {
	x := begun(t, 1, 3, 1)
	var list []api.Message
	for n := range 500 {
		list = append(list, api.Message{Kind: api.Accept, From: 3, To: 2 - n%2*2, Group: "v4.0", Value: string([]byte{byte(n)})})
	}
	lay(t, x, list...)
	do(x, api.Round, 0, 0)
	got := x.Bag()
	if len(got) != api.MaxBag {
		t.Fatalf("P12: %d packets behind a Round", len(got))
	}
	for i, s := range got {
		from, n := 0, 1+i/6*2
		if i >= 1500 {
			from, n = 2, (i-1500)/6*2
		}
		want := api.Message{Kind: api.Accepted, From: from, To: 3 + i%6, Group: "v4.0", Value: string([]byte{byte(n)})}
		if m, e := pact.Decode(s); e != api.OK || !alike(m, want) {
			t.Fatalf("P14: packet %d: %+v, want %+v", i, m, want)
		}
	}
}

func TestBreak(t *testing.T) {
	for _, c := range []struct {
		b    int
		want []string // what the node answers then to a ballot between the two
	}{
		{0, []string{"promise 1>4 s0 66 0:65=x"}},
		{1, []string{"reject 1>4 s0 67"}},
		{-5, []string{"reject 1>4 s0 67"}},
		{1 << 62, []string{"reject 1>4 s0 67"}},
	} {
		x := begun(t, 1, 1, 1)
		inject(t, x, api.Message{Kind: api.Accept, From: 3, To: 1, Group: "s0", Ballot: 65, Value: "x"})
		lay(t, x, api.Message{Kind: api.Accept, From: 3, To: 1, Group: "s0", Ballot: 67, Value: "y"})
		was := x.Stored(1)
		do(x, api.Break, 1, c.b)
		holds(t, "P15: nothing is sent", x, "accepted 1>3 s0 65 0=x")
		if stored := x.Stored(1); (stored == was) != (c.b == 0) {
			t.Errorf("P15: B %d: stored was %q, and is %q", c.b, was, stored)
		}
		empty(x)
		inject(t, x, api.Message{Kind: api.Prepare, From: 4, To: 1, Group: "s0", Ballot: 66})
		holds(t, "P15: the acceptor is down", x)
		do(x, api.Restart, 1, 0)
		inject(t, x, api.Message{Kind: api.Prepare, From: 4, To: 1, Group: "s0", Ballot: 66})
		holds(t, fmt.Sprintf("P15: B %d", c.b), x, c.want...)
	}
}

// A node crashes over whatever message comes to it; over none, if the packet is no message, it is down, or it is a client.
func TestBreakOfOtherPackets(t *testing.T) {
	for _, b := range []int{0, 1} {
		x := begun(t, 1, 1, 1)
		beat := func(to int) api.Message {
			return api.Message{Kind: api.Beat, From: 3, To: to, Group: "s0", Ballot: 67}
		}
		lay(t, x, beat(0), beat(1), beat(5), beat(30), beat(2))
		do(x, api.Flip, 1, 77)
		do(x, api.Crash, 2, 0)
		for range 5 {
			do(x, api.Break, 0, b)
		}
		holds(t, "P15: all are gone", x)
		for a := range 3 {
			inject(t, x, api.Message{Kind: api.Prepare, From: 3, To: a, Group: "s0", Ballot: 67})
		}
		holds(t, "P15: 0 has crashed, and 1 has not", x, "promise 1>3 s0 67")
		do(x, api.Crash, 5, 0)
		do(x, api.Restart, 2, 0)
		inject(t, x, api.Message{Kind: api.Prepare, From: 3, To: 2, Group: "s0", Ballot: 67})
		holds(t, "P15: 2 is as it was", x, "promise 1>3 s0 67", "promise 2>3 s0 67")
	}
}
