package talk

import (
	"pact/api"
	"pact/plan"
)

// The kinds of replies.
const (
	Answer   = 1 // of a Get or Put: the number of the request stands beside it
	Outcome  = 2 // how a transaction ended
	Question = 3 // whether the client still runs a transaction
)

// Reply is what a server tells a client.
type Reply struct {
	Kind         int
	Tx           int // of Outcome and Question
	Answer, Word int // of Answer and Outcome: what the call is answered; and of Answer the word of a Value
}

func replyNames() []string { return []string{"", "answer", "outcome", "question"} }

// places tells where the numbers of a reply of its kind stand.
func (r *Reply) places() []*int {
	switch r.Kind {
	case Answer:
		return []*int{&r.Answer, &r.Word}
	case Outcome:
		return []*int{&r.Tx, &r.Answer}
	case Question:
		return []*int{&r.Tx}
	}
	return nil
}

// Text is the reply's text.
func (r Reply) Text() string { return join(replyNames()[r.Kind], r.places()) }

// ReadReply tells the reply that a text is, if it is one that a cluster can have.
func ReadReply(c api.Config, text string) (Reply, bool) {
	r := Reply{Kind: kindOf(text, replyNames())}
	fill(text, r.places())
	if r.Text() != text || !r.fits(c) {
		return Reply{}, false
	}
	return r, true
}

func (r Reply) fits(c api.Config) bool {
	switch r.Kind {
	case Answer:
		return api.Value <= r.Answer && r.Answer <= api.Busy && IsWord(r.Word) && (r.Word == 0 || r.Answer == api.Value)
	case Outcome:
		return plan.IsTx(c, r.Tx) && (r.Answer == api.Committed || r.Answer == api.Aborted)
	}
	return r.Kind == Question && plan.IsTx(c, r.Tx)
}
