package record

import (
	"errors"
	"testing"
	"unsafe"
)

func TestRecord(t *testing.T) {
	var w Writer
	if w.String() != "" || Read("").More() {
		t.Errorf("P24: an empty record is %q", w.String())
	}
	words := []string{"", "s0", " ", "\"", "\\", "a b", "\x00\xff\xc3", "\n", "é\u2028\ufffd", "`'"}
	for i, s := range words {
		w.Number(i * 1000)
		w.Text(s)
	}
	r := Read(w.String())
	for i, s := range words {
		if n, got := r.Number(9000), r.Text(); n != i*1000 || got != s {
			t.Errorf("P24: %d %q is read as %d %q", i*1000, s, n, got)
		}
	}
	if r.More() {
		t.Errorf("P24: something is left of %q", w.String())
	}
}

// What is read is kept: it lies in no memory that was handed in.
func TestTextIsACopy(t *testing.T) {
	handed := `"s0"`
	got := Read(handed).Text()
	p, q := uintptr(unsafe.Pointer(unsafe.StringData(got))), uintptr(unsafe.Pointer(unsafe.StringData(handed)))
	if got != "s0" || q <= p && p < q+uintptr(len(handed)) {
		t.Errorf("P2: %q lies in what was handed in", got)
	}
}

func caught(f func()) (r any) {
	defer func() { r = recover() }()
	f()
	return nil
}

func TestReaderGivesUpByItsOwnError(t *testing.T) {
	number := func(s string) func() { return func() { Read(s).Number(50) } }
	text := func(s string) func() { return func() { Read(s).Text() } }
	for what, f := range map[string]func(){
		"nothing":             number(""),
		"a space":             number(" "),
		"a space ahead":       number(" 5"),
		"a text":              number(`"5"`),
		"one below 0":         number("-1"),
		"one above the most":  number("51"),
		"a very great number": number("99999999999999999999999"),
		"a number and more":   number("5x"),
		"no text":             text(""),
		"a number":            text("5"),
		"half a text":         text(`"s0`),
		"no end of a text":    text(`"s0\"`),
		"a text and more":     text(`"s0"x`),
		"two lines":           text("\"s\n0\""),
	} {
		err, ok := caught(f).(error)
		var fault Fault
		if !ok || !errors.As(err, &fault) || fault.Error() == "" {
			t.Errorf("P24: %s: gave up with %v", what, err)
		}
	}
	for _, f := range []func(){number("0"), number("50 x"), text(`"" 5`)} {
		if r := caught(f); r != nil {
			t.Errorf("P24: gave up with %v", r)
		}
	}
}

func TestLists(t *testing.T) {
	var w Writer
	w.Numbers()
	w.Numbers(3, 4)
	w.Flag(true)
	w.Flag(false)
	w.Texts(nil)
	w.Texts([]string{"a b", ""})
	if got, want := w.String(), `3 4 1 0 0 2 "a b" ""`; got != want {
		t.Errorf("P24: the record is %s, want %s", got, want)
	}
}
