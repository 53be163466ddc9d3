package bag

import (
	"slices"
	"testing"

	"pact/api"
)

func filled(packets ...string) *Bag {
	b := &Bag{}
	for _, p := range packets {
		b.Send(p)
	}
	return b
}

func TestBag(t *testing.T) {
	b := filled("a", "b", "c")
	b.Copy(1)
	b.Flip(1, 2)
	if p, is := b.Pull(0); p != "a" || !is {
		t.Errorf("P12: packet 0 is %q, %v", p, is)
	}
	if got := b.Tell(); !slices.Equal(got, []string{"f", "c", "b"}) {
		t.Errorf("P12: the bag has %q", got)
	}
	if got := b.PullAll(); !slices.Equal(got, []string{"f", "c", "b"}) || len(b.Tell()) != 0 {
		t.Errorf("P14: %q come to their nodes, and %q are left", got, b.Tell())
	}
}

func TestNoSuchPacketOrBit(t *testing.T) {
	b := filled("ab", "")
	for _, at := range []int{-1 << 63, -1, 2, 1<<63 - 1} {
		b.Copy(at)
		b.Flip(at, 0)
		if p, is := b.Pull(at); p != "" || is {
			t.Errorf("P12: packet %d is %q", at, p)
		}
	}
	for _, bit := range []int{-1 << 63, -8, -1, 16, 1 << 40, 1<<63 - 1} {
		b.Flip(0, bit)
		b.Flip(1, bit)
	}
	b.Flip(1, 0)
	if got := b.Tell(); !slices.Equal(got, []string{"ab", ""}) {
		t.Errorf("P12: the bag has %q", got)
	}
}

func TestFull(t *testing.T) {
	b := filled(make([]string, api.MaxBag-1)...)
	b.Send("last")
	b.Send("lost")
	b.Copy(api.MaxBag - 1)
	if got := b.Tell(); len(got) != api.MaxBag || got[api.MaxBag-1] != "last" {
		t.Errorf("P12: a bag of %d packets, the last %q", len(got), got[len(got)-1])
	}
}
