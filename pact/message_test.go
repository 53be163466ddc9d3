package pact_test

import (
	"fmt"
	"hash/crc32"
	"math"
	"reflect"
	"slices"
	"strings"
	"sync"
	"testing"
	"unsafe"

	"pact/api"
	"pact/pact"
)

// draw is a row of numbers that is the same in each run.
type draw uint64

func (d *draw) next(n int) int {
	*d ^= *d << 13
	*d ^= *d >> 7
	*d ^= *d << 17
	return int((uint64(*d) >> 11) % uint64(n))
}

func (d *draw) text(n int) string {
	b := make([]byte, n)
	for i := range b {
		b[i] = byte(d.next(256))
	}
	return string(b)
}

// summed: bytes, and their check sum behind.
func summed(s string) string {
	c := crc32.ChecksumIEEE([]byte(s))
	return s + string([]byte{byte(c), byte(c >> 8), byte(c >> 16), byte(c >> 24)})
}

func x(s string, n int) string { return strings.Repeat(s, n) }

func encoded(t *testing.T, m api.Message) string {
	t.Helper()
	s, e := pact.Encode(m)
	if e != api.OK {
		t.Fatalf("P3: Encode(%+v): %d", m, e)
	}
	return s
}

func refused(t *testing.T, what string, m api.Message) {
	t.Helper()
	if s, e := pact.Encode(m); s != "" || e != api.ErrArg {
		t.Errorf("P3: %s: Encode(%+v) = %x, %d, want ErrArg alone", what, m, s, e)
	}
}

func decodes(t *testing.T, what, s string, want api.Errno) {
	t.Helper()
	m, e := pact.Decode(s)
	if e != want {
		t.Errorf("P4: %s: Decode(%x): %d, want %d", what, s, e, want)
	}
	if e != api.OK && !reflect.DeepEqual(m, api.Message{}) {
		t.Errorf("P1: %s: Decode(%x): beside the error %d stands %+v", what, s, e, m)
	}
}

// rows: entries of the slots from 0 on.
func rows(n int) []api.Entry {
	list := make([]api.Entry, n)
	for i := range list {
		list[i] = api.Entry{Slot: i, Ballot: i * 1000, Value: x("v", i%41)}
	}
	return list
}

// samples: messages of each kind that can be sent, with what their fields may be at most and at least.
func samples() []api.Message {
	return []api.Message{
		{Kind: api.Prepare, From: 3, To: 0, Group: "s0", Ballot: 67},
		{Kind: api.Prepare, From: 63, To: 63, Group: "\x00", Ballot: api.MaxBallot},
		{Kind: api.Promise, From: 1, To: 4, Group: "v5.0", Ballot: 0x010203},
		{Kind: api.Promise, To: 3, Group: x("g", 12), Ballot: 1, List: []api.Entry{{Slot: 0, Ballot: 0x0a0b0c, Value: "P"}, {Slot: 7}, {Slot: 240, Ballot: api.MaxBallot, Value: x("\xff", 40)}}},
		{Kind: api.Promise, Group: "s2", List: rows(241)},
		{Kind: api.Accept, From: 4, To: 2, Group: "v4.0", Value: "P"},
		{Kind: api.Accept, From: 5, To: 1, Group: "s1", Ballot: 65535, Slot: 240, Value: x("\x00", 40)},
		{Kind: api.Accepted, From: 2, To: 5, Group: "s1", Ballot: 65536, Slot: 1},
		{Kind: api.Reject, From: 1, To: 62, Group: "s1", Ballot: 255},
		{Kind: api.Chosen, From: 3, To: 4, Group: "s0", Slot: 239, Value: "abc"},
		{Kind: api.Beat, From: 4, To: 3, Group: "s0", Ballot: 256, Slot: 12},
		{Kind: api.Request, From: 7, To: 3, Slot: 65535, Value: x("M", 40)},
		{Kind: api.Request, From: 7, To: 3, Slot: 256, Value: "G"},
		{Kind: api.Reply, From: 3, To: 7, Slot: 255, Value: "V999"},
		{Kind: api.Reply},
	}
}

// written: the bytes of each sample, as the document lays them out, without the check sum.
func written() []string {
	all := ""
	for i := range 241 {
		b := i * 1000
		all += string([]byte{byte(i), byte(b >> 16), byte(b >> 8), byte(b), byte(i % 41)}) + x("v", i%41)
	}
	return []string{
		"M\x01\x03\x00" + "\x02s0" + "\x00\x00\x43" + "\x00\x00" + "\x00" + "\x00",
		"M\x01\x3f\x3f" + "\x01\x00" + "\xff\xff\xff" + "\x00\x00" + "\x00" + "\x00",
		"M\x02\x01\x04" + "\x04v5.0" + "\x01\x02\x03" + "\x00\x00" + "\x00" + "\x00",
		"M\x02\x00\x03" + "\x0c" + x("g", 12) + "\x00\x00\x01" + "\x00\x00" + "\x00" + "\x03" + "\x00\x0a\x0b\x0c\x01P" + "\x07\x00\x00\x00\x00" + "\xf0\xff\xff\xff\x28" + x("\xff", 40),
		"M\x02\x00\x00" + "\x02s2" + "\x00\x00\x00" + "\x00\x00" + "\x00" + "\xf1" + all,
		"M\x03\x04\x02" + "\x04v4.0" + "\x00\x00\x00" + "\x00\x00" + "\x01P" + "\x00",
		"M\x03\x05\x01" + "\x02s1" + "\x00\xff\xff" + "\x00\xf0" + "\x28" + x("\x00", 40) + "\x00",
		"M\x04\x02\x05" + "\x02s1" + "\x01\x00\x00" + "\x00\x01" + "\x00" + "\x00",
		"M\x05\x01\x3e" + "\x02s1" + "\x00\x00\xff" + "\x00\x00" + "\x00" + "\x00",
		"M\x06\x03\x04" + "\x02s0" + "\x00\x00\x00" + "\x00\xef" + "\x03abc" + "\x00",
		"M\x07\x04\x03" + "\x02s0" + "\x00\x01\x00" + "\x00\x0c" + "\x00" + "\x00",
		"M\x08\x07\x03" + "\x00" + "\x00\x00\x00" + "\xff\xff" + "\x28" + x("M", 40) + "\x00",
		"M\x08\x07\x03" + "\x00" + "\x00\x00\x00" + "\x01\x00" + "\x01G" + "\x00",
		"M\x09\x03\x07" + "\x00" + "\x00\x00\x00" + "\x00\xff" + "\x04V999" + "\x00",
		"M\x09\x00\x00" + "\x00" + "\x00\x00\x00" + "\x00\x00" + "\x00" + "\x00",
	}
}

// kind: what a kind of message uses, and up to where.
type kind struct {
	kind                             int
	group, ballot, slot, value, list int
}

func kinds() []kind {
	return []kind{
		{api.Prepare, 12, 1<<24 - 1, 0, 0, 0},
		{api.Promise, 12, 1<<24 - 1, 0, 0, 241},
		{api.Accept, 12, 1<<24 - 1, 240, 40, 0},
		{api.Accepted, 12, 1<<24 - 1, 240, 40, 0},
		{api.Reject, 12, 1<<24 - 1, 0, 0, 0},
		{api.Chosen, 12, 0, 240, 40, 0},
		{api.Beat, 12, 1<<24 - 1, 240, 0, 0},
		{api.Request, 0, 0, 1<<16 - 1, 40, 0},
		{api.Reply, 0, 0, 1<<16 - 1, 40, 0},
	}
}

// least: the message of a kind in which all that may be is 0 or empty.
func (k kind) least() api.Message {
	return api.Message{Kind: k.kind, Group: x("g", min(1, k.group))}
}

// greatest: the message of a kind in which all is as great as it may be.
func (k kind) greatest() api.Message {
	return api.Message{
		Kind: k.kind, From: 63, To: 63, Group: x("g", k.group), Ballot: k.ballot, Slot: k.slot,
		Value: x("v", k.value), List: rows(k.list),
	}
}

// number: a field that is a number, its least and greatest value.
type number struct {
	name        string
	set         func(*api.Message, int)
	least, most int
}

func (k kind) numbers() []number {
	return []number{
		{"From", func(m *api.Message, n int) { m.From = n }, 0, 63},
		{"To", func(m *api.Message, n int) { m.To = n }, 0, 63},
		{"Ballot", func(m *api.Message, n int) { m.Ballot = n }, 0, k.ballot},
		{"Slot", func(m *api.Message, n int) { m.Slot = n }, 0, k.slot},
	}
}

// lengths: the fields that have a length.
func (k kind) lengths() []number {
	return []number{
		{"Group", func(m *api.Message, n int) { m.Group = x("g", n) }, min(1, k.group), k.group},
		{"Value", func(m *api.Message, n int) { m.Value = x("v", n) }, 0, k.value},
		{"List", func(m *api.Message, n int) { m.List = rows(n) }, 0, k.list},
	}
}

func TestEncodeBytes(t *testing.T) {
	want := written()
	for i, m := range samples() {
		if s := encoded(t, m); s != summed(want[i]) {
			t.Errorf("P3: Encode(%+v) = %x, want %x", m, s, summed(want[i]))
		}
	}
	if s := encoded(t, samples()[0]); s != "\x4d\x01\x03\x00\x02\x73\x30\x00\x00\x43\x00\x00\x00\x00\xd1\xab\xb5\xda" {
		t.Errorf("P3: the example of the document is %x", s)
	}
}

func TestEncodeTakesAnEmptyListAsNone(t *testing.T) {
	for _, k := range kinds() {
		m := k.least()
		want := encoded(t, m)
		m.List = []api.Entry{}
		if s := encoded(t, m); s != want {
			t.Errorf("P3: Encode(%+v) = %x, want %x", m, s, want)
		}
	}
}

func TestEncodeEdges(t *testing.T) {
	for _, k := range kinds() {
		for _, base := range []api.Message{k.least(), k.greatest()} {
			encoded(t, base)
			for _, f := range append(k.numbers(), k.lengths()...) {
				checkEdges(t, base, f)
			}
			for _, f := range k.numbers() {
				checkWild(t, base, f)
			}
		}
	}
}

// checkEdges: a field at its edges, and one beyond.
func checkEdges(t *testing.T, base api.Message, f number) {
	t.Helper()
	for _, n := range []int{f.least, min(f.least+1, f.most), max(f.most-1, f.least), f.most} {
		m := base
		f.set(&m, n)
		s := encoded(t, m)
		if got, e := pact.Decode(s); e != api.OK || !alike(got, m) {
			t.Errorf("P4: %s %d: Decode = %+v, %d, want %+v", f.name, n, got, e, m)
		}
	}
	m := base
	f.set(&m, f.most+1)
	refused(t, fmt.Sprint(f.name, " ", f.most+1), m)
	if f.least > 0 {
		f.set(&m, f.least-1)
		refused(t, fmt.Sprint(f.name, " ", f.least-1), m)
	}
}

// checkWild: numbers of which the low bytes look well.
func checkWild(t *testing.T, base api.Message, f number) {
	t.Helper()
	for _, n := range []int{-1, math.MinInt, math.MaxInt, -256, 256 << 16, 1 << 32, 1<<32 + 1, -1 << 32} {
		m := base
		f.set(&m, n)
		refused(t, fmt.Sprint(f.name, " ", n), m)
	}
}

func alike(a, b api.Message) bool {
	if len(a.List) == 0 && len(b.List) == 0 {
		a.List, b.List = nil, nil
	}
	return reflect.DeepEqual(a, b)
}

func TestEncodeKinds(t *testing.T) {
	for _, n := range []int{0, 10, -1, 255, 256, 257, math.MaxInt, math.MinInt, 1<<32 + 1} {
		for _, k := range kinds() {
			for _, m := range []api.Message{k.least(), k.greatest()} {
				m.Kind = n
				refused(t, fmt.Sprint("Kind ", n), m)
			}
		}
	}
}

func TestEncodeLongTexts(t *testing.T) {
	for _, n := range []int{255, 256, 257, 268, 1 << 16, 1 << 20} {
		refused(t, "a long Group", api.Message{Kind: api.Prepare, Group: x("g", n)})
		refused(t, "a long Value", api.Message{Kind: api.Reply, Value: x("v", n)})
		refused(t, "a long Value in the List", api.Message{Kind: api.Promise, Group: "s0", List: []api.Entry{{Value: x("v", n)}}})
		refused(t, "a long List", api.Message{Kind: api.Promise, Group: "s0", List: make([]api.Entry, n)})
	}
}

func TestEncodeEntries(t *testing.T) {
	promise := func(list ...api.Entry) api.Message {
		return api.Message{Kind: api.Promise, Group: "s0", List: list}
	}
	for _, list := range [][]api.Entry{
		{{Slot: 0}}, {{Slot: 240}}, {{Slot: 239}, {Slot: 240}}, {{Slot: 0}, {Slot: 1}, {Slot: 240}},
		{{Ballot: api.MaxBallot}}, {{Ballot: 1}}, {{Value: x("v", 40)}}, {{Value: x("v", 39)}},
	} {
		encoded(t, promise(list...))
	}
	for _, list := range [][]api.Entry{
		{{Slot: -1}}, {{Slot: 241}}, {{Slot: 256}}, {{Slot: math.MinInt}}, {{Slot: math.MaxInt}},
		{{Slot: 1}, {Slot: 1}}, {{Slot: 1}, {Slot: 0}}, {{Slot: 0}, {Slot: 2}, {Slot: 1}}, {{Slot: 240}, {Slot: 241}}, {{Slot: 0}, {Slot: 256}}, {{Slot: 0}, {Slot: -1}},
		{{Ballot: -1}}, {{Ballot: api.MaxBallot + 1}}, {{Ballot: math.MinInt}}, {{Ballot: math.MaxInt}}, {{Slot: 3}, {Slot: 4, Ballot: 1 << 32}},
		{{Value: x("v", 41)}}, {{Slot: 3}, {Slot: 4, Value: x("v", 256)}},
	} {
		refused(t, "entries", promise(list...))
	}
	full := rows(241)
	full[240].Slot = 239
	refused(t, "a full List with a slot twice", promise(full...))
}

func TestDecodeReadsWhatEncodeWrote(t *testing.T) {
	for _, m := range samples() {
		s := encoded(t, m)
		if got, e := pact.Decode(s); e != api.OK || !alike(got, m) {
			t.Errorf("P4: Decode(%x) = %+v, %d, want %+v", s, got, e, m)
		}
	}
	d := draw(4)
	for range 3000 {
		m := d.message()
		s := encoded(t, m)
		if got, e := pact.Decode(s); e != api.OK || !alike(got, m) {
			t.Fatalf("P4: Decode(%x) = %+v, %d, want %+v", s, got, e, m)
		}
	}
}

// message: some message that can be sent.
func (d *draw) message() api.Message {
	k := kinds()[d.next(9)]
	m := api.Message{
		Kind: k.kind, From: d.next(64), To: d.next(64), Ballot: d.next(k.ballot + 1), Slot: d.next(k.slot + 1),
		Value: d.text(d.next(k.value + 1)),
	}
	if k.group > 0 {
		m.Group = d.text(1 + d.next(k.group))
	}
	if k.list > 0 {
		for slot := d.next(60); slot <= api.MaxSlot; slot += 1 + d.next(60) {
			m.List = append(m.List, api.Entry{Slot: slot, Ballot: d.next(1 << 24), Value: d.text(d.next(41))})
		}
	}
	return m
}

func TestDecodeShort(t *testing.T) {
	for _, m := range samples() {
		s := encoded(t, m)
		for n := range len(s) {
			decodes(t, "a cut", s[:n], api.ErrShort)
		}
	}
	for _, c := range []struct{ what, s string }{
		{"a group that reaches beyond the end", "M\x01\x00\x00\xff" + x("g", 254)},
		{"a value that reaches beyond the end", "M\x08\x00\x00\x00\x00\x00\x00\x00\x00\xff" + x("g", 254)},
		{"entries that reach beyond the end", "M\x02\x00\x00\x01s\x00\x00\x00\x00\x00\x00\xff" + x("\x00", 5*255-1)},
		{"the check sum cut off", "M\x02\x00\x00\x01s\x00\x00\x00\x00\x00\x00\xff" + x("\x00", 5*255) + "\x00\x00\x00"},
	} {
		decodes(t, c.what, c.s, api.ErrShort)
	}
}

func TestDecodeSum(t *testing.T) {
	for _, m := range samples() {
		s := encoded(t, m)
		body, sum := s[:len(s)-4], s[len(s)-4:]
		for i := range 4 {
			for _, turn := range []byte{1, 0x80, 0xff} {
				b := []byte(sum)
				b[i] ^= turn
				decodes(t, "another byte in the sum", body+string(b), api.ErrSum)
			}
		}
		decodes(t, "the sum with the high byte first", body+string([]byte{sum[3], sum[2], sum[1], sum[0]}), api.ErrSum)
		decodes(t, "no sum", body+"\x00\x00\x00\x00", api.ErrSum)
		decodes(t, "another kind", "M"+string([]byte{body[1] ^ 8})+body[2:]+sum, api.ErrSum)
	}
}

func TestDecodeForm(t *testing.T) {
	const reply = "M\x09\x00\x00\x00\x00\x00\x00\x00\x00\x00\x00"
	promise := func(count, entries string) string {
		return "M\x02\x00\x00\x01s\x00\x00\x00\x00\x00\x00" + count + entries
	}
	for _, c := range []struct{ what, s string }{
		{"another first byte", "N" + reply[1:]},
		{"a first byte 0", "\x00" + reply[1:]},
		{"a small m", "m" + reply[1:]},
		{"kind 0", "M\x00" + reply[2:]},
		{"kind 10", "M\x0a" + reply[2:]},
		{"kind 255", "M\xff" + reply[2:]},
		{"From 64", "M\x09\x40" + reply[3:]},
		{"From 255", "M\x09\xff" + reply[3:]},
		{"To 64", "M\x09\x00\x40" + reply[4:]},
		{"a reply with a group", "M\x09\x00\x00\x01s\x00\x00\x00\x00\x00\x00\x00"},
		{"a reply with a ballot", "M\x09\x00\x00\x00\x00\x00\x01\x00\x00\x00\x00"},
		{"a reply with an entry", reply[:11] + "\x01\x00\x00\x00\x00\x00"},
		{"a value of 41 bytes", "M\x09\x00\x00\x00\x00\x00\x00\x00\x00\x29" + x("v", 41) + "\x00"},
		{"a value of 255 bytes", "M\x09\x00\x00\x00\x00\x00\x00\x00\x00\xff" + x("v", 255) + "\x00"},
		{"no group", "M\x01\x00\x00\x00\x00\x00\x00\x00\x00\x00\x00"},
		{"a group of 13 bytes", "M\x01\x00\x00\x0d" + x("g", 13) + "\x00\x00\x00\x00\x00\x00\x00"},
		{"a group of 255 bytes", "M\x01\x00\x00\xff" + x("g", 255) + "\x00\x00\x00\x00\x00\x00\x00"},
		{"a prepare with a slot", "M\x01\x00\x00\x01s\x00\x00\x00\x00\x01\x00\x00"},
		{"a prepare with a value", "M\x01\x00\x00\x01s\x00\x00\x00\x00\x00\x01v\x00"},
		{"an accept of slot 241", "M\x03\x00\x00\x01s\x00\x00\x00\x00\xf1\x00\x00"},
		{"an accept of slot 256", "M\x03\x00\x00\x01s\x00\x00\x00\x01\x00\x00\x00"},
		{"a chosen with a ballot", "M\x06\x00\x00\x01s\x00\x00\x01\x00\x00\x00\x00"},
		{"an entry of slot 241", promise("\x01", "\xf1\x00\x00\x00\x00")},
		{"an entry with a value of 41 bytes", promise("\x01", "\x00\x00\x00\x00\x29"+x("v", 41))},
		{"two entries of one slot", promise("\x02", "\x01\x00\x00\x00\x00\x01\x00\x00\x00\x00")},
		{"entries that fall", promise("\x02", "\x02\x00\x00\x00\x00\x01\x00\x00\x00\x00")},
		{"255 entries", promise("\xff", x("\x00\x00\x00\x00\x00", 255))},
		{"242 entries", promise("\xf2", x("\x00\x00\x00\x00\x00", 242))},
	} {
		decodes(t, c.what, summed(c.s), api.ErrForm)
	}
}

func TestDecodeBehindTheEnd(t *testing.T) {
	for _, m := range samples() {
		s := encoded(t, m)
		for _, more := range []string{"\x00", "M", "\xff\xff\xff\xff", s, s[len(s)-4:], x("\x00", 1000)} {
			decodes(t, "bytes behind", s+more, api.ErrForm)
		}
		decodes(t, "a check sum of the whole behind", summed(s), api.ErrForm)
	}
}

func TestDecodeNamesTheFirstError(t *testing.T) {
	reply := encoded(t, api.Message{Kind: api.Reply})
	kind0 := "M\x00" + reply[2:]
	for _, c := range []struct {
		what, s string
		want    api.Errno
	}{
		{"one byte that is no mark", "N", api.ErrShort},
		{"short, and no mark", "N" + reply[1:len(reply)-1], api.ErrShort},
		{"short, and another kind", kind0[:len(kind0)-1], api.ErrShort},
		{"short, and a wrong sum begins", reply[:len(reply)-4] + "\x00\x00\x00", api.ErrShort},
		{"a wrong sum, and no mark", "N" + reply[1:], api.ErrSum},
		{"a wrong sum, and another kind", kind0, api.ErrSum},
		{"a wrong sum, and bytes behind", reply[:len(reply)-4] + "\x00\x00\x00\x00\x00", api.ErrSum},
		{"a byte put in ahead of the sum", reply[:len(reply)-4] + "\x00" + reply[len(reply)-4:], api.ErrSum},
		{"no mark, and bytes behind", summed("N"+reply[1:len(reply)-4]) + "\x00", api.ErrForm},
	} {
		decodes(t, c.what, c.s, c.want)
	}
}

// flipped: bytes of which the bits from at on, the lowest of a byte first, are turned where the pattern has ones.
func flipped(s string, at int, pattern uint32) string {
	b := []byte(s)
	for i := range 32 {
		if n := at + i; pattern>>i&1 == 1 && n < 8*len(b) {
			b[n/8] ^= 1 << (n % 8)
		}
	}
	return string(b)
}

func TestDecodeFindsTurnedBits(t *testing.T) {
	d := draw(32)
	for _, m := range samples() {
		s := encoded(t, m)
		if len(s) > 200 {
			continue
		}
		for at := range 8 * len(s) {
			patterns := []uint32{1, 3, 5, 0xff, 0x80000001, 0xffffffff}
			for range 20 {
				patterns = append(patterns, uint32(d.next(1<<32))|1)
			}
			for _, p := range patterns {
				spoilt := flipped(s, at, p)
				got, e := pact.Decode(spoilt)
				if e == api.OK || !reflect.DeepEqual(got, api.Message{}) {
					t.Fatalf("P4: Decode(%x) with %08x turned from bit %d on: %+v, %d", s, p, at, got, e)
				}
			}
		}
	}
}

func TestMessagesAtAnything(t *testing.T) {
	d := draw(1)
	numbers := []int{0, 1, 9, 10, -1, 63, 64, 240, 241, 255, 256, 1 << 24, math.MaxInt, math.MinInt}
	pick := func() int { return numbers[d.next(len(numbers))] }
	for range 20000 {
		m := api.Message{Kind: pick(), From: pick(), To: pick(), Group: d.text(d.next(15)), Ballot: pick(), Slot: pick(), Value: d.text(d.next(50))}
		for range d.next(4) {
			m.List = append(m.List, api.Entry{Slot: pick(), Ballot: pick(), Value: d.text(d.next(50))})
		}
		s, e := pact.Encode(m)
		if e != api.OK && (e != api.ErrArg || s != "") {
			t.Fatalf("P1: Encode(%+v) = %x, %d", m, s, e)
		}
		if e == api.OK {
			decodes(t, "what was written", s, api.OK)
		}
	}
	for range 20000 {
		s := d.text(d.next(60))
		if d.next(2) == 0 {
			s = summed("M" + string([]byte{byte(d.next(12)), byte(d.next(66)), byte(d.next(66)), byte(d.next(4))}) + s)
		}
		m, e := pact.Decode(s)
		if e < api.OK || e > api.ErrForm || e == api.ErrArg || e != api.OK && !reflect.DeepEqual(m, api.Message{}) {
			t.Fatalf("P1: Decode(%x) = %+v, %d", s, m, e)
		}
		if e == api.OK && encoded(t, m) != s {
			t.Fatalf("P4: Decode(%x) = %+v, which has other bytes", s, m)
		}
	}
	for _, b := range []string{"\x00", "M", "\xff", "\x01"} {
		m, e := pact.Decode(x(b, 1<<22))
		if e == api.OK || e == api.ErrArg || !reflect.DeepEqual(m, api.Message{}) {
			t.Errorf("P1: Decode of many %x: %+v, %d", b, m, e)
		}
	}
	refused(t, "very many entries", api.Message{Kind: api.Promise, Group: "s0", List: make([]api.Entry, 1<<20)})
}

func TestMessagesAnswerTheSame(t *testing.T) {
	list := samples()
	want := make([]string, len(list))
	for i, m := range list {
		want[i] = encoded(t, m)
	}
	var wait sync.WaitGroup
	for range 8 {
		wait.Go(func() {
			for i, m := range list {
				if s, e := pact.Encode(m); s != want[i] || e != api.OK {
					t.Errorf("P2: Encode(%+v) = %x, %d, and before %x", m, s, e, want[i])
				}
				if got, e := pact.Decode(want[i]); e != api.OK || !alike(got, m) {
					t.Errorf("P2: Decode(%x) = %+v, %d", want[i], got, e)
				}
			}
		})
	}
	wait.Wait()
}

func TestEncodeWritesNothingInto(t *testing.T) {
	room := rows(241)
	for _, n := range []int{0, 1, 3, 240, 241} {
		for _, k := range []int{api.Promise, api.Reply, 0} {
			before := slices.Clone(room)
			m := api.Message{Kind: k, Group: "s0", List: room[:n]}
			pact.Encode(m)
			if !slices.Equal(room, before) || len(m.List) != n || m.Group != "s0" {
				t.Errorf("P2: Encode has written into its argument, or behind it")
			}
		}
	}
}

// overlap tells whether two texts share a byte of memory.
func overlap(a, b string) bool {
	if a == "" || b == "" {
		return false
	}
	p, q := uintptr(unsafe.Pointer(unsafe.StringData(a))), uintptr(unsafe.Pointer(unsafe.StringData(b)))
	return p < q+uintptr(len(b)) && q < p+uintptr(len(a))
}

func TestDecodeAnswersNewMemory(t *testing.T) {
	m := api.Message{Kind: api.Promise, From: 1, To: 2, Group: "group", Ballot: 3, List: rows(100)}
	s := encoded(t, m)
	one, _ := pact.Decode(s)
	two, _ := pact.Decode(s)
	for _, text := range []string{one.Group, one.List[40].Value, one.List[99].Value} {
		if overlap(text, s) || overlap(text, two.Group) || overlap(text, two.List[40].Value) || overlap(text, two.List[99].Value) {
			t.Errorf("P2: %q lies in the argument or in another answer", text)
		}
	}
	room := one.List[:cap(one.List)]
	for i := range room {
		room[i] = api.Entry{Slot: -1, Ballot: -1, Value: "spoilt"}
	}
	three, _ := pact.Decode(s)
	if !alike(two, m) || !alike(three, m) {
		t.Errorf("P2: what was written into an answer is seen in another")
	}
	for _, e := range three.List[:cap(three.List)] {
		if e.Value == "spoilt" {
			t.Errorf("P2: the spare room of an answer is that of another")
		}
	}
	if s != encoded(t, m) {
		t.Errorf("P2: Decode has changed its argument")
	}
}
