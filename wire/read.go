package wire

import (
	"strconv"
	"strings"

	"pact/api"
)

// Fault is the error that Read gives up with, by a panic.
type Fault struct {
	Why api.Errno
}

func (f Fault) Error() string {
	return "no message: reason " + strconv.Itoa(int(f.Why))
}

func giveUp(why api.Errno) { panic(Fault{why}) }

// Reason tells why Read gave up, of what was caught. Bytes that make it fail in another way are no message either.
func Reason(caught any) api.Errno {
	if f, ok := caught.(Fault); ok {
		return f.Why
	}
	return api.ErrForm
}

// Read tells the message that the bytes are. If they are none, it panics with a Fault, which the caller must catch.
func Read(s string) api.Message {
	r := &reader{bytes: s}
	first := r.number(1)
	m := r.message()
	body := s[:r.at]
	sum := r.take(sumWidth)
	if sum != sumText(body) {
		giveUp(api.ErrSum)
	}
	if first != mark || r.at != len(s) || !Sendable(m) {
		giveUp(api.ErrForm)
	}
	return m
}

// reader goes through bytes, from the front on.
type reader struct {
	bytes string
	at    int
}

// message reads the fields behind the mark; calls in a literal are made in the order of the text, so this is the order of the bytes.
func (r *reader) message() api.Message {
	return api.Message{
		Kind:   r.number(1),
		From:   r.number(1),
		To:     r.number(1),
		Group:  r.text(),
		Ballot: r.number(ballotWidth),
		Slot:   r.number(slotWidth),
		Value:  r.text(),
		List:   r.entries(),
	}
}

func (r *reader) entries() []api.Entry {
	var list []api.Entry
	for range r.number(1) {
		list = append(list, api.Entry{
			Slot:   r.number(1),
			Ballot: r.number(ballotWidth),
			Value:  r.text(),
		})
	}
	return list
}

// text reads a text ahead of which stands how many bytes it has; a copy, since an answer shares no memory with what was handed in.
func (r *reader) text() string {
	return strings.Clone(r.take(r.number(1)))
}

// number reads a number of so many bytes, the high byte first.
func (r *reader) number(width int) int {
	n := 0
	for _, b := range []byte(r.take(width)) {
		n = n<<8 | int(b)
	}
	return n
}

// take reads so many bytes.
func (r *reader) take(n int) string {
	if n > len(r.bytes)-r.at {
		giveUp(api.ErrShort)
	}
	s := r.bytes[r.at : r.at+n]
	r.at += n
	return s
}
