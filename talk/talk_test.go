package talk

import (
	"testing"

	"pact/api"
)

func small() api.Config { return api.Config{F: 1, Shards: 2, Clients: 2} }

func TestOrders(t *testing.T) {
	for text, want := range map[string]Order{
		"get 4 1 0":           {Kind: Get, Tx: 4, Seq: 1},
		"get 201 65535 5":     {Kind: Get, Tx: 201, Seq: 65535, Key: 5},
		"put 5 2 3 999":       {Kind: Put, Tx: 5, Seq: 2, Key: 3, Word: 999},
		"put 201 65535 5 999": {Kind: Put, Tx: 201, Seq: 65535, Key: 5, Word: 999},
		"prepare 5 3":         {Kind: Prepare, Tx: 5, Shards: 3},
		"abort 8":             {Kind: Abort, Tx: 8},
		"end 8 5":             {Kind: End, Tx: 8, Outcome: api.Aborted},
		"end 8 6":             {Kind: End, Tx: 8, Outcome: api.Committed},
	} {
		o, is := ReadOrder(small(), text)
		if !is || o != want || o.Text() != text || len(text) > api.MaxValue {
			t.Errorf("%q is read as %+v, %v, and written %q", text, o, is, o.Text())
		}
		if o.Takes() != (o.Kind == Get || o.Kind == Put) {
			t.Errorf("%q takes a lock: %v", text, o.Takes())
		}
	}
}

func TestTextsThatAreNoOrders(t *testing.T) {
	for _, text := range []string{
		"", " ", "get", "get ", "get 4 1", "get 4 1 0 ", "get 4 1 0 0", " get 4 1 0", "get  4 1 0", "get 4 1 -0", "get 4 01 0", "get +4 1 0", "Get 4 1 0",
		"get 3 1 0", "get 6 1 0", "get 7 1 0", "get 0 1 0", "get -4 1 0", "get 204 1 0", "get 4 0 0", "get 4 65536 0", "get 4 1 6", "get 4 1 -1", "get 99999999999999999999 1 0",
		"put 4 1 0", "put 4 1 0 1000", "put 4 1 0 -1", "prepare 4 0", "prepare 4 4", "prepare 4 -1", "abort 2", "abort", "end 4 0", "end 4 4", "end 4 7", "stop 4", "0 4", "get 4 1 0\n",
	} {
		if o, is := ReadOrder(small(), text); is || o != (Order{}) {
			t.Errorf("%q is read as %+v", text, o)
		}
	}
}

func TestReplies(t *testing.T) {
	for text, want := range map[string]Reply{
		"answer 1 999": {Kind: Answer, Answer: api.Value, Word: 999},
		"answer 1 0":   {Kind: Answer, Answer: api.Value},
		"answer 2 0":   {Kind: Answer, Answer: api.Absent},
		"answer 3 0":   {Kind: Answer, Answer: api.Done},
		"answer 4 0":   {Kind: Answer, Answer: api.Busy},
		"outcome 5 5":  {Kind: Outcome, Tx: 5, Answer: api.Aborted},
		"outcome 5 6":  {Kind: Outcome, Tx: 5, Answer: api.Committed},
		"question 201": {Kind: Question, Tx: 201},
	} {
		r, is := ReadReply(small(), text)
		if !is || r != want || r.Text() != text || len(text) > api.MaxValue {
			t.Errorf("%q is read as %+v, %v, and written %q", text, r, is, r.Text())
		}
	}
	for _, text := range []string{
		"", "answer", "answer 0 0", "answer 5 0", "answer 6 0", "answer 1", "answer 1 1000", "answer 1 -1", "answer 2 1", "answer 3 7", "answer 1 0 0", "answer  1 0",
		"outcome 5 4", "outcome 6 5", "outcome 5", "question 3", "question", "question 05", "get 4 1 0",
	} {
		if r, is := ReadReply(small(), text); is || r != (Reply{}) {
			t.Errorf("%q is read as %+v", text, r)
		}
	}
}
