package shard

import (
	"fmt"
	"slices"
	"strings"
	"testing"

	"pact/api"
)

func config() api.Config { return api.Config{F: 1, Shards: 2, Clients: 3} }

// apply: what a value brings about, in short: the calls that are answered, who is prepared, who has ended.
func apply(s *Shard, value string) string {
	news := s.Apply(value)
	var list []string
	for _, tx := range news.Answered {
		call := s.Call(tx)
		list = append(list, fmt.Sprintf("%d#%d %s %d", tx, call.Order.Seq, []string{"asked", "value", "absent", "done", "busy"}[call.Answer], call.Word))
	}
	if news.Prepared != 0 {
		list = append(list, fmt.Sprint(news.Prepared, " prepared"))
	}
	for _, d := range news.Ended {
		list = append(list, fmt.Sprintf("%d ended %d", d.Tx, d.Outcome))
	}
	return strings.Join(list, ", ")
}

// plays applies values, "value: what it brings about" each.
func plays(t *testing.T, what string, s *Shard, values ...string) {
	t.Helper()
	for _, v := range values {
		value, want, _ := strings.Cut(v, ": ")
		o, is := s.Read(value)
		useful := is && s.Useful(o)
		held, votes := fmt.Sprint(s.Held()), s.Vote(o.Tx)
		got := apply(s, value)
		if got != want {
			t.Errorf("%s: %s brings about %q, want %q", what, value, got, want)
		}
		if !useful && (got != "" || fmt.Sprint(s.Held()) != held || s.Vote(o.Tx) != votes) {
			t.Errorf("%s: %s is of no use, and does something: %q, %v", what, value, got, s.Held())
		}
		if is && s.Useful(o) {
			t.Errorf("%s: %s is of use behind itself", what, value)
		}
		if votes != "" && s.Vote(o.Tx) != votes {
			t.Errorf("P21: %s: %s turns the vote %s into %s", what, value, votes, s.Vote(o.Tx))
		}
	}
}

func is[T any](t *testing.T, what string, got, want T) {
	t.Helper()
	if fmt.Sprint(got) != fmt.Sprint(want) {
		t.Errorf("%s: %v, want %v", what, got, want)
	}
}

func TestOneTransaction(t *testing.T) {
	s := New(config(), 0)
	plays(t, "P20", &s, "get 4 1 0: 4#1 absent 0", "put 4 2 0 7: 4#2 done 0", "get 4 3 0: 4#3 value 7", "put 4 4 2 8: 4#4 done 0", "put 4 5 0 9: 4#5 done 0")
	is(t, "Held", s.Held(), []int{4})
	is(t, "Running", s.Running(), []int{4})
	is(t, "Open", s.Open(), nil)
	is(t, "the vote", s.Vote(4), "")
	plays(t, "P21", &s, "prepare 4 1: 4 prepared")
	is(t, "Running", s.Running(), nil)
	is(t, "Open", s.Open(), []int{4})
	is(t, "Shards", s.Shards(4), 1)
	is(t, "the vote", s.Vote(4), Yes)
	plays(t, "P20", &s, "end 4 6: 4 ended 6", "get 5 1 0: 5#1 value 9", "get 5 2 2: 5#2 value 8", "get 5 3 4: 5#3 absent 0")
	is(t, "Held", s.Held(), []int{5})
	is(t, "Open", s.Open(), nil)
	is(t, "the vote", s.Vote(4), Yes)
}

func TestAborted(t *testing.T) {
	for _, end := range [][]string{{"abort 4: 4 ended 5"}, {"prepare 4 3: 4 prepared", "abort 4: ", "end 4 5: 4 ended 5"}, {"end 4 5: 4 ended 5"}} {
		s := New(config(), 0)
		plays(t, "P20", &s, "put 4 1 0 7: 4#1 done 0")
		plays(t, "P20", &s, end...)
		is(t, "Held", s.Held(), nil)
		is(t, "the vote", s.Vote(4), map[int]string{1: No, 3: Yes}[len(end)])
		plays(t, "P20: behind its end", &s, "prepare 4 1: ", "abort 4: ", "end 4 6: ", "get 4 2 0: ", "get 5 1 0: 5#1 absent 0")
		is(t, "Held", s.Held(), []int{5})
	}
}

// Old values, and what is none of this shard's, do nothing.
func TestValuesOfNoUse(t *testing.T) {
	s := New(config(), 0)
	plays(t, "P20", &s, "put 4 5 0 7: 4#5 done 0", "put 4 5 0 7: ", "put 4 4 2 8: ", "get 4 1 0: ", "get 4 6 0: 4#6 value 7")
	plays(t, "none", &s, "", "x", "get 5 1 1: ", "get 5 1 6: ", "get 7 1 0: ", "end 5 6: ", "end 5 5: ", "end 4 6: ", "abort 5: ", "put 4 7 0 1000: ")
	is(t, "Held", s.Held(), []int{4})
}

// A shard that has nothing of a transaction can be prepared: it was asked, and answered Busy.
func TestPreparedWithoutLocks(t *testing.T) {
	s := New(config(), 0)
	plays(t, "P21", &s, "prepare 4 3: 4 prepared")
	is(t, "Held", s.Held(), nil)
	is(t, "Open", s.Open(), []int{4})
	plays(t, "P9: one that is prepared takes no lock", &s, "get 4 1 0: 4#1 busy 0")
	is(t, "Held", s.Held(), nil)
	plays(t, "P21", &s, "end 4 5: 4 ended 5")
	is(t, "Open", s.Open(), nil)
}

func TestWounds(t *testing.T) {
	s := New(config(), 0)
	plays(t, "P6", &s, "put 6 1 0 1: 6#1 done 0", "get 5 1 2: 5#1 absent 0", "get 6 2 2: 6#2 absent 0", "put 5 2 0 2: 5#2 done 0, 6 ended 5")
	is(t, "Held", s.Held(), []int{5})
	is(t, "the vote", s.Vote(6), No)
	plays(t, "P6", &s, "prepare 6 1: ", "get 6 3 0: ", "put 4 1 2 3: 4#1 done 0, 5 ended 5")
	is(t, "Held", s.Held(), []int{4})
}

func TestWaits(t *testing.T) {
	s := New(config(), 0)
	plays(t, "P6", &s, "put 4 1 0 7: 4#1 done 0", "get 5 1 0: ", "get 6 1 0: ")
	is(t, "Held", s.Held(), []int{4, 5, 6})
	is(t, "Running", s.Running(), []int{4, 5, 6})
	plays(t, "P20", &s, "prepare 4 1: 4 prepared", "end 4 6: 5#1 value 7, 6#1 value 7, 4 ended 6", "put 4 2 0 1: ")
	is(t, "Held", s.Held(), []int{5, 6})
	plays(t, "P6", &s, "put 6 2 0 8: ", "abort 5: 6#2 done 0, 5 ended 5")
	plays(t, "P6: one that waits is prepared", &s, "prepare 6 1: 6 prepared", "put 9 2 0 3: ", "prepare 9 1: 9 ended 5")
	is(t, "the vote", s.Vote(9), No)
	is(t, "Held", s.Held(), []int{6})
}

// A client that has forgotten a transaction has another call now; the lock comes, and no answer.
func TestLockOfAForgottenCall(t *testing.T) {
	s := New(config(), 0)
	plays(t, "P24", &s, "put 4 1 0 7: 4#1 done 0", "put 5 1 0 8: ", "get 9 2 2: 9#2 absent 0", "abort 4: 4 ended 5")
	is(t, "Held", s.Held(), []int{5, 9})
	plays(t, "P24", &s, "abort 5: 5 ended 5", "get 6 1 0: 6#1 absent 0")

	s = New(config(), 0)
	plays(t, "P24", &s, "put 4 1 0 7: 4#1 done 0", "put 6 1 2 9: 6#1 done 0", "put 5 1 0 8: ", "get 9 2 2: ", "abort 4: 4 ended 5")
	plays(t, "P24: its client's new call waits for another lock", &s, "prepare 6 1: 6 prepared", "end 6 6: 9#2 value 9, 6 ended 6")
}

func TestFullTable(t *testing.T) {
	s := New(config(), 0)
	for n := 1; n <= 8; n++ {
		for key := 0; key < 6; key += 2 {
			apply(&s, fmt.Sprintf("get %d %d %d", 4*n, 10*n+key, key))
		}
	}
	plays(t, "P6", &s, "get 5 1 0: 5#1 busy 0", "put 5 2 0 7: 5#2 busy 0", "prepare 5 1: 5 prepared", "end 5 6: 5 ended 6", "abort 4: 4 ended 5", "get 9 3 0: 9#3 absent 0")
	if held := s.Held(); !slices.Equal(held, []int{8, 9, 12, 16, 20, 24, 28, 32}) {
		t.Errorf("P6: %v hold locks", held)
	}
}
