package wire

import (
	"errors"
	"hash/crc32"
	"testing"

	"pact/api"
)

func TestCheckSum(t *testing.T) {
	if got := checkSum("123456789"); got != 0xcbf43926 {
		t.Errorf("P3: the check value of CRC-32 is %08x", got)
	}
	if got := sumText("123456789"); got != "\x26\x39\xf4\xcb" {
		t.Errorf("P3: the low byte comes first, not %x", got)
	}
	text := ""
	for n := range 600 {
		if got, want := checkSum(text), crc32.ChecksumIEEE([]byte(text)); got != want {
			t.Fatalf("P3: the sum of %d bytes is %08x, want %08x", n, got, want)
		}
		text += string([]byte{byte(n * 151)})
	}
}

// caught: what Read gives up with.
func caught(s string) (r any) {
	defer func() { r = recover() }()
	Read(s)
	return nil
}

func TestReadGivesUpByItsOwnError(t *testing.T) {
	reply := Write(api.Message{Kind: api.Reply})
	for _, c := range []struct {
		s   string
		why api.Errno
	}{
		{"", api.ErrShort},
		{reply[:len(reply)-1], api.ErrShort},
		{reply[:len(reply)-4] + "\x00\x00\x00\x00", api.ErrSum},
		{reply + "\x00", api.ErrForm},
	} {
		err, ok := caught(c.s).(error)
		var f Fault
		if !ok || !errors.As(err, &f) || f.Why != c.why || f.Error() == "" {
			t.Errorf("P4: Read(%x) gave up with %v, want the reason %d", c.s, err, c.why)
		}
		if got := Reason(err); got != c.why {
			t.Errorf("P4: the reason of %v is %d", err, got)
		}
	}
	if r := caught(reply); r != nil {
		t.Errorf("P4: Read(%x) gave up with %v", reply, r)
	}
}

func TestReasonOfAnotherPanic(t *testing.T) {
	for _, r := range []any{"text", errors.New("other"), 3} {
		if got := Reason(r); got != api.ErrForm {
			t.Errorf("P1: the reason of %v is %d", r, got)
		}
	}
}
