package acceptor

import (
	"errors"
	"testing"

	"pact/api"
	"pact/record"
)

func small() api.Config { return api.Config{F: 0, Shards: 2, Clients: 1} }

// course: messages that go all ways through an acceptor, and how many answers each has.
func course() []struct {
	m       api.Message
	answers int
} {
	return []struct {
		m       api.Message
		answers int
	}{
		{api.Message{Kind: api.Prepare, From: 1, Group: "s0", Ballot: 65}, 1},
		{api.Message{Kind: api.Accept, From: 1, Group: "s0", Ballot: 65, Slot: 2, Value: "x"}, 1},
		{api.Message{Kind: api.Accept, From: 1, Group: "s0", Ballot: 129, Slot: 0, Value: "y"}, 1},
		{api.Message{Kind: api.Prepare, From: 2, Group: "s0", Ballot: 66}, 1},
		{api.Message{Kind: api.Accept, From: 2, Group: "s0", Ballot: 66, Slot: 0, Value: "z"}, 1},
		{api.Message{Kind: api.Accept, From: 2, Group: "v4.0", Value: "P"}, 4},
		{api.Message{Kind: api.Accept, From: 2, Group: "v4.0", Ballot: 7, Value: "A"}, 4},
		{api.Message{Kind: api.Accept, From: 2, Group: "v4.0", Value: "P"}, 1},
		{api.Message{Kind: api.Beat, From: 2, Group: "s0", Ballot: 999}, 0},
		{api.Message{Kind: api.Accepted, From: 2, Group: "s0", Ballot: 999}, 0},
		{api.Message{Kind: api.Prepare, From: 2, Group: "s0", Ballot: 999}, 1},
	}
}

// Whatever is sent, all has been stored by then.
func TestAnswersWaitForTheStoring(t *testing.T) {
	a := New(small(), 0)
	for i, c := range course() {
		var stored []string
		a.Take(c.m, func(api.Message) { stored = append(stored, a.Stored()) })
		if len(stored) != c.answers {
			t.Errorf("P17: message %d has %d answers, want %d", i, len(stored), c.answers)
		}
		for _, s := range stored {
			if s != a.Stored() {
				t.Errorf("P17: message %d is answered when %q is stored, and then comes %q", i, s, a.Stored())
			}
		}
	}
}

func TestStored(t *testing.T) {
	a := New(small(), 0)
	for _, c := range course() {
		a.Take(c.m, func(api.Message) {})
	}
	want := `"s0" 999 2 0 129 "y" 2 65 "x" "v4.0" 7 1 0 7 "A"`
	if got := a.Stored(); got != want {
		t.Errorf("P24: stored is %s, want %s", got, want)
	}
	b := New(small(), 0)
	b.Load(want)
	if b.Stored() != want || b.State() != a.State() {
		t.Errorf("P24: %s is loaded as %s", want, b.Stored())
	}
}

// The ballot 0 needs no promise: an acceptor that is asked for it knows nothing new.
func TestBallotZeroIsNothingNew(t *testing.T) {
	a := New(small(), 0)
	a.Take(api.Message{Kind: api.Prepare, Group: "s0"}, func(api.Message) {})
	a.Take(api.Message{Kind: api.Prepare, Group: "v4.0"}, func(api.Message) {})
	if got := a.State(); got != New(small(), 0).State() {
		t.Errorf("P17: behind Prepare with the ballot 0 the acceptor knows %q", got)
	}
}

func caught(text string) (r any) {
	defer func() { r = recover() }()
	New(small(), 0).Load(text)
	return nil
}

func TestLoadGivesUp(t *testing.T) {
	for _, text := range []string{
		"x", "1", `"s0"`, `"s0" 5`, `"s0" 5 1`, `"s0" 5 1 0`, `"s0" 5 1 0 5`, `"s0" 5 1 0 5 x`, `"s0" 5 0 x`, `"s0"5 0`,
		`"s0" -1 0`, `"s0" 16777216 0`, `"s0" 99999999999999999999 0`, `"" 5 0`, `"0123456789012" 5 0`,
		`"s0" 5 242`, `"s0" 5 1 241 5 "x"`, `"s0" 5 1 0 6 "x"`, `"s0" 5 2 1 5 "x" 1 5 "x"`, `"s0" 5 2 2 5 "x" 1 5 "x"`,
		`"s1" 5 0 "s0" 5 0`, `"s0" 5 0 "s0" 6 0`,
		`"s0" 5 1 0 5 "01234567890123456789012345678901234567890"`,
	} {
		err, ok := caught(text).(error)
		var f record.Fault
		if !ok || !errors.As(err, &f) {
			t.Errorf("P24: Load(%s) gave up with %v", text, err)
		}
	}
	if r := caught(""); r != nil {
		t.Errorf("P24: Load of nothing gave up with %v", r)
	}
}
