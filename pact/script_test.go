package pact_test

import (
	"fmt"
	"maps"
	"slices"
	"sync"
	"testing"

	"pact/api"
	"pact/pact"
)

// plainAcceptor: an acceptor by the words of P17.
type plainAcceptor struct {
	down     bool
	promised map[string]int
	accepted map[string]map[int]api.Entry
}

// knows: what the acceptor knows, as a text. The promise 0 is what there is at first.
func (p *plainAcceptor) knows() string {
	promised := maps.Clone(p.promised)
	maps.DeleteFunc(promised, func(_ string, b int) bool { return b == 0 })
	return fmt.Sprintf("%#v %#v", promised, p.accepted)
}

// plainNet: the net and the acceptors by the words of P12 to P17, in a cluster whose servers are down and whose clients ask nothing.
type plainNet struct {
	acceptors []plainAcceptor
	servers   int
	bag       []string
}

func newPlainNet(c api.Config) *plainNet {
	p := &plainNet{acceptors: make([]plainAcceptor, 2*c.F+1), servers: 2 * c.Shards}
	for i := range p.acceptors {
		p.acceptors[i].promised, p.acceptors[i].accepted = map[string]int{}, map[string]map[int]api.Entry{}
	}
	return p
}

// answers: what an acceptor sends because of a message.
func (p *plainNet) answers(m api.Message) []api.Message {
	a := &p.acceptors[m.To]
	promised := a.promised[m.Group]
	switch {
	case m.Kind != api.Prepare && m.Kind != api.Accept:
		return nil
	case m.Ballot < promised:
		return []api.Message{{Kind: api.Reject, From: m.To, To: m.From, Group: m.Group, Ballot: promised}}
	}
	a.promised[m.Group] = m.Ballot
	if m.Kind == api.Prepare {
		answer := api.Message{Kind: api.Promise, From: m.To, To: m.From, Group: m.Group, Ballot: m.Ballot}
		for slot := range 241 {
			if e, is := a.accepted[m.Group][slot]; is {
				answer.List = append(answer.List, e)
			}
		}
		return []api.Message{answer}
	}
	if a.accepted[m.Group] == nil {
		a.accepted[m.Group] = map[int]api.Entry{}
	}
	a.accepted[m.Group][m.Slot] = api.Entry{Slot: m.Slot, Ballot: m.Ballot, Value: m.Value}
	hears := []int{m.From}
	if m.Group[0] == 'v' {
		hears = nil
		for s := range p.servers {
			hears = append(hears, len(p.acceptors)+s)
		}
	}
	var list []api.Message
	for _, to := range hears {
		list = append(list, api.Message{Kind: api.Accepted, From: m.To, To: to, Group: m.Group, Ballot: m.Ballot, Slot: m.Slot, Value: m.Value})
	}
	return list
}

func (p *plainNet) send(list []api.Message) {
	for _, m := range list {
		if s, _ := pact.Encode(m); len(p.bag) < api.MaxBag {
			p.bag = append(p.bag, s)
		}
	}
}

// come: bytes come to their node; is that an acceptor that is up?
func (p *plainNet) come(s string) (api.Message, bool) {
	m, e := pact.Decode(s)
	return m, e == api.OK && m.To < len(p.acceptors) && !p.acceptors[m.To].down
}

func (p *plainNet) do(s api.Step) {
	switch {
	case s.Kind == api.Inject:
		if m, comes := p.come(s.S); comes && m.To == s.A {
			p.send(p.answers(m))
		}
	case s.Kind == api.Round:
		p.round()
	case s.Kind == api.Crash || s.Kind == api.Restart:
		if 0 <= s.A && s.A < len(p.acceptors) {
			p.acceptors[s.A].down = s.Kind == api.Crash
		}
	case s.A >= 0 && s.A < len(p.bag):
		p.packet(s)
	}
}

func (p *plainNet) round() {
	var sent [3][]api.Message
	for _, s := range p.bag {
		if m, comes := p.come(s); comes {
			sent[m.To] = append(sent[m.To], p.answers(m)...)
		}
	}
	p.bag = nil
	for _, list := range sent {
		p.send(list)
	}
}

// packet: a step that deals with a packet that there is.
func (p *plainNet) packet(s api.Step) {
	packet := p.bag[s.A]
	switch s.Kind {
	case api.Copy:
		if len(p.bag) < api.MaxBag {
			p.bag = append(p.bag, packet)
		}
	case api.Flip:
		if s.B >= 0 && s.B < 8*len(packet) {
			p.bag[s.A] = flipped(packet, s.B, 1)
		}
	case api.Deliver, api.Drop, api.Break:
		p.bag = slices.Delete(p.bag, s.A, s.A+1)
		m, comes := p.come(packet)
		if !comes || s.Kind == api.Drop {
			return
		}
		if s.Kind == api.Deliver {
			p.send(p.answers(m))
			return
		}
		if s.B != 0 {
			p.answers(m)
		}
		p.acceptors[m.To].down = true
	}
}

// steps: some steps of a script, next: mostly one; those that turn a packet into another message are many.
func (d *draw) steps(t *testing.T, bag []string, acceptors int) []api.Step {
	at := d.next(len(bag)+1) - d.next(20)/19
	switch d.next(12) {
	case 0, 1, 2:
		m := d.note()
		m.To = d.next(acceptors + 1)
		return []api.Step{{Kind: api.Inject, A: m.To - d.next(20)/19, S: encoded(t, m)}}
	case 3:
		return []api.Step{{Kind: api.Restart, A: d.next(acceptors)}}
	case 4:
		return []api.Step{{Kind: []int{api.Crash, api.Round, api.Round}[d.next(3)], A: d.next(acceptors)}}
	case 5:
		return []api.Step{{Kind: api.Copy, A: at}}
	case 6:
		return []api.Step{{Kind: api.Flip, A: at, B: d.next(200) - 1}}
	case 7:
		return []api.Step{{Kind: api.Break, A: at, B: d.next(3) - 1}}
	case 8:
		return []api.Step{{Kind: []int{api.Drop, api.Tick}[d.next(2)], A: at}}
	case 9:
		return []api.Step{{Kind: api.Deliver, A: at}}
	}
	if at < 0 || at >= len(bag) {
		return nil
	}
	return d.turned(t, bag[at], at, acceptors)
}

// turned: the steps that turn the answer of an acceptor into something that it is asked.
func (d *draw) turned(t *testing.T, was string, at, acceptors int) []api.Step {
	m, e := pact.Decode(was)
	if e != api.OK || m.List != nil {
		return nil
	}
	m.Kind = map[int]int{api.Promise: api.Prepare, api.Reject: api.Prepare, api.Accepted: api.Accept}[m.Kind]
	if m.Kind == 0 {
		return nil
	}
	m.From, m.To, m.Ballot = d.next(7), d.next(acceptors), d.next(300)
	var list []api.Step
	for bit, into := 0, encoded(t, m); bit < 8*len(into); bit++ {
		if (was[bit/8]^into[bit/8])>>(bit%8)&1 == 1 {
			list = append(list, api.Step{Kind: api.Flip, A: at, B: bit})
		}
	}
	return list
}

// pairs holds that of two texts each has one partner alone.
type pairs struct{ one, other map[string]string }

func (p *pairs) fit(a, b string) bool {
	was, is := p.one[a]
	back, isBack := p.other[b]
	p.one[a], p.other[b] = b, a
	return (!is || was == b) && (!isBack || back == a)
}

func TestScriptsAgainstAPlainNet(t *testing.T) {
	for seed := range 60 {
		d := draw(seed*977 + 5)
		c := api.Config{F: d.next(2), Shards: 1 + d.next(3), Clients: 1 + d.next(3)}
		x, p := begun(t, c.F, c.Shards, c.Clients), newPlainNet(c)
		states := pairs{map[string]string{}, map[string]string{}}
		stop := func() {
			for s := range p.servers {
				do(x, api.Crash, len(p.acceptors)+s, 0)
			}
		}
		stop()
		for n := range 600 {
			if d.next(100) == 0 {
				x = reopened(t, x, c)
				stop()
				p.bag = nil
				for i := range p.acceptors {
					p.acceptors[i].down = false
				}
			}
			for _, s := range d.steps(t, p.bag, len(p.acceptors)) {
				x.Do(s)
				p.do(s)
				if !slices.Equal(x.Bag(), p.bag) {
					t.Fatalf("P12 to P17: seed %d, step %d, %+v: %q, want %q", seed, n, s, x.Bag(), p.bag)
				}
			}
			for a := range p.acceptors {
				if !states.fit(p.acceptors[a].knows(), x.State(a)) {
					t.Fatalf("P17: seed %d, step %d: node %d tells %q where it knows %s", seed, n, a, x.State(a), p.acceptors[a].knows())
				}
			}
		}
	}
}

// script: what a cluster tells behind each step of some script.
func script(t *testing.T, seed draw) []string {
	x := begun(t, 1, 2, 2)
	var list []string
	for range 150 {
		for _, s := range seed.steps(t, x.Bag(), 3) {
			x.Do(s)
		}
		list = append(list, all(x, 9))
	}
	return list
}

// The same steps have the same answers, in each run, beside other clusters, and between them.
func TestClustersKeepApart(t *testing.T) {
	var want [6][]string
	for i := range want {
		want[i] = script(t, draw(31+i))
	}
	var wait sync.WaitGroup
	for i := range want {
		wait.Go(func() {
			for range 3 {
				if !slices.Equal(script(t, draw(31+i)), want[i]) {
					t.Errorf("P2: the script %d has other answers beside others", i)
				}
			}
		})
	}
	wait.Wait()
	var mixed [6]*pact.Cluster
	var seeds [6]draw
	for i := range mixed {
		mixed[i], seeds[i] = begun(t, 1, 2, 2), draw(31+i)
	}
	for n := range want[0] {
		for i, x := range mixed {
			for _, s := range seeds[i].steps(t, x.Bag(), 3) {
				x.Do(s)
			}
			if all(x, 9) != want[i][n] {
				t.Fatalf("P2: the script %d has other answers between others, at step %d", i, n)
			}
		}
	}
}

// All numbers and strings: no step panics, and what tells something changes nothing.
func TestStepsAtAnything(t *testing.T) {
	d := draw(77)
	numbers := append(wild(), 0, 1, 2, 3, 4, 5, 6, 7, 8, 63, 64, 2000)
	pick := func() int { return numbers[d.next(len(numbers))] }
	for range 30 {
		x := begun(t, d.next(2), 1+d.next(3), 1+d.next(3))
		for range 300 {
			s := api.Step{Kind: d.next(18) - 1, A: pick(), B: pick(), C: pick(), S: d.text(d.next(30))}
			if m := d.message(); d.next(2) == 0 {
				m.To = d.next(12)
				s.A, s.S = m.To, encoded(t, m)
			}
			x.Do(s)
			if was := all(x, 13); was != all(x, 13) {
				t.Fatalf("P1: what tells something has changed something: %s", was)
			}
		}
	}
}

func TestClusterAnswersNewMemory(t *testing.T) {
	x := begun(t, 1, 1, 1)
	handed := []byte(encoded(t, api.Message{Kind: api.Accept, From: 3, Group: "s0", Ballot: 5, Value: "value"}))
	text := string(handed)
	x.Do(api.Step{Kind: api.Inject, S: text})
	do(x, api.Copy, 0, 0)
	lists := [][]string{{text}}
	for range 2 {
		lists = append(lists, x.Bag())
		for a := range 6 {
			lists = append(lists, []string{x.State(a)}, []string{x.Stored(a)})
		}
	}
	flat := slices.Concat(lists...)
	for i, s := range flat {
		for _, other := range flat[:i] {
			if overlap(s, other) {
				t.Fatalf("P2: %q shares memory with another answer, or with what was handed in", s)
			}
		}
	}
	was := all(x, 6)
	for _, list := range lists {
		spoil(list, "spoilt")
	}
	if all(x, 6) != was {
		t.Errorf("P2: what is written into an answer is seen in others: %s, was %s", all(x, 6), was)
	}
}
