package tally

import (
	"cmp"
	"fmt"
	"testing"
)

// count: what a tally of such keys tells.
func count[K cmp.Ordered](t *testing.T, a, b K, want string) {
	t.Helper()
	var y Tally[K]
	got := fmt.Sprint(y.Say(b, 0), y.Say(b, 2), y.Say(b, 0), y.Say(a, 63), y.Say(b, 1), y.Say(b, -1), y.Say(b, 64))
	if got != "1 2 2 1 3 3 3" {
		t.Errorf("keys %v and %v: %s have said it", a, b, got)
	}
	if !y.Has(a, 63) || y.Has(a, 0) || !y.Has(b, 0) || y.Has(b, 63) || y.Has(b, -1) || y.Has(b, 64) {
		t.Errorf("keys %v and %v: who has said what is wrong", a, b)
	}
	list := ""
	for what, who := range y.All() {
		list += fmt.Sprint(what, ":", who, " ")
	}
	if list != want {
		t.Errorf("keys %v and %v: %s, want %s", a, b, list, want)
	}
	y.Drop(b)
	if y.Has(b, 0) || !y.Has(a, 63) || y.Say(b, 5) != 1 {
		t.Errorf("keys %v and %v: Drop", a, b)
	}
}

func TestTalliesOfSeveralKinds(t *testing.T) {
	count(t, 3, 64, "3:63 64:0 64:1 64:2 ")
	count(t, "0 0 P", "0 64 A", "0 0 P:63 0 64 A:0 0 64 A:1 0 64 A:2 ")
	count(t, -1.5, 2.5, "-1.5:63 2.5:0 2.5:1 2.5:2 ")
}

func TestAllEnds(t *testing.T) {
	var y Tally[int]
	y.Say(1, 2)
	y.Say(1, 3)
	n := 0
	for range y.All() {
		n++
		break
	}
	if n != 1 {
		t.Errorf("%d", n)
	}
}
