// Package record: texts of what nodes have stored: numbers, and texts in quotes, with a space between.
package record

import (
	"strconv"
	"strings"
)

// Writer makes a record. At first it is empty.
type Writer struct {
	text strings.Builder
}

// Number adds a number.
func (w *Writer) Number(n int) { w.add(strconv.Itoa(n)) }

// Numbers adds numbers.
func (w *Writer) Numbers(list ...int) {
	for _, n := range list {
		w.Number(n)
	}
}

// Flag adds a yes or no, as 1 or 0.
func (w *Writer) Flag(yes bool) {
	n := 0
	if yes {
		n = 1
	}
	w.Number(n)
}

// Text adds a text of any bytes.
func (w *Writer) Text(s string) { w.add(strconv.Quote(s)) }

// Texts adds how many texts there are, and these.
func (w *Writer) Texts(list []string) {
	w.Number(len(list))
	for _, s := range list {
		w.Text(s)
	}
}

// String is the record so far.
func (w *Writer) String() string { return w.text.String() }

func (w *Writer) add(word string) {
	if w.text.Len() > 0 {
		w.text.WriteByte(' ')
	}
	w.text.WriteString(word)
}

// Fault is the error that a reader gives up with, by a panic.
type Fault struct {
	Why string
}

func (f Fault) Error() string { return "no record: " + f.Why }

// GiveUp ends the reading of a record that is none.
func GiveUp(why string) { panic(Fault{why}) }

// Reader goes through a record, from the front on. Where it is none, the reader panics with a Fault, which the caller must catch.
type Reader struct {
	rest string
}

// Read begins to read a record.
func Read(text string) *Reader { return &Reader{rest: text} }

// More says whether there is something left.
func (r *Reader) More() bool { return r.rest != "" }

// Number reads a number from 0 up to most.
func (r *Reader) Number(most int) int {
	word, _, _ := strings.Cut(r.rest, " ")
	n, err := strconv.Atoi(word)
	if err != nil || n < 0 || n > most {
		GiveUp("no number up to " + strconv.Itoa(most))
	}
	r.skip(len(word))
	return n
}

// Text reads a text; a copy, since nothing that was handed in is kept.
func (r *Reader) Text() string {
	word, err := strconv.QuotedPrefix(r.rest)
	if err != nil {
		GiveUp("no text in quotes")
	}
	s, err := strconv.Unquote(word)
	if err != nil {
		GiveUp("no text in quotes")
	}
	r.skip(len(word))
	return strings.Clone(s)
}

// skip goes behind a word and the space that parts it from the next.
func (r *Reader) skip(n int) {
	behind := r.rest[n:]
	if behind != "" && behind[0] != ' ' {
		GiveUp("no space behind a word")
	}
	r.rest = strings.TrimPrefix(behind, " ")
}
