package wire

import "pact/api"

// mark is the first byte of every message.
const mark = 'M'

// How many bytes a number has.
const (
	ballotWidth = 3
	slotWidth   = 2
	sumWidth    = 4
)

// Write tells the bytes of a message that can be sent.
func Write(m api.Message) string {
	b := []byte{mark, byte(m.Kind), byte(m.From), byte(m.To)}
	b = appendText(b, m.Group)
	b = appendNumber(b, m.Ballot, ballotWidth)
	b = appendNumber(b, m.Slot, slotWidth)
	b = appendText(b, m.Value)
	b = append(b, byte(len(m.List)))
	for _, e := range m.List {
		b = append(b, byte(e.Slot))
		b = appendNumber(b, e.Ballot, ballotWidth)
		b = appendText(b, e.Value)
	}
	body := string(b)
	return body + sumText(body)
}

// appendNumber writes a number in so many bytes, the high byte first.
func appendNumber(b []byte, n, width int) []byte {
	for i := width - 1; i >= 0; i-- {
		b = append(b, byte(n>>(8*i)))
	}
	return b
}

func appendText(b []byte, s string) []byte {
	b = append(b, byte(len(s)))
	return append(b, s...)
}
