package lock

import (
	"fmt"
	"testing"

	"pact/api"
)

// place is a key of a kind that no table of package pact has.
type place struct {
	shard int
	name  string
}

// walk plays one course on the keys a and b, whatever they are.
func walk[K comparable](t *testing.T, a, b K) {
	t.Helper()
	l := New[K](5)
	told := func(answer int, wounded []int, got []Grant[K]) string { return fmt.Sprint(answer, wounded, got) }
	for i, s := range []struct{ got, want string }{
		{told(l.Take(5, a, true)), "1 [] []"},
		{told(l.Take(5, b, true)), "1 [] []"},
		{told(l.Take(7, b, false)), "2 [] []"},
		{told(l.Take(8, a, false)), "2 [] []"},
		{fmt.Sprint(l.Waits()), "[{7 5} {8 5}]"},
		{told(l.Take(3, a, false)), fmt.Sprintf("1 [5] [{7 %v} {8 %v}]", b, a)},
		{fmt.Sprint(l.Free(7), l.Free(8), l.Free(3)), "[] [] []"},
		{told(l.Take(5, b, true)), "1 [] []"},
	} {
		if s.got != s.want {
			t.Errorf("P6 to P9: keys %v and %v: step %d: %s, want %s", a, b, i, s.got, s.want)
		}
	}
}

func TestTablesOfAllKindsOfKeys(t *testing.T) {
	walk(t, 0, 5)
	walk(t, "s0", "s1")
	walk(t, place{0, "x"}, place{0, "y"})
	walk(t, [2]bool{true, false}, [2]bool{false, true})
}

func TestNothingIsLeft(t *testing.T) {
	l := New[string](api.MaxLocks)
	for tx := 1; tx <= 4; tx++ {
		l.Take(tx, "x", tx%2 == 0)
		l.Take(tx, "y", tx%2 == 1)
		l.Hold(tx)
	}
	for tx := 1; tx <= 4; tx++ {
		l.Free(tx)
	}
	if len(l.held)+len(l.waits)+len(l.prepared) != 0 {
		t.Errorf("P8: when all are freed, there is left: %v, %v, %v", l.held, l.waits, l.prepared)
	}
}

func TestOwners(t *testing.T) {
	l := New[string](8)
	if got := l.Owners(); len(got) != 0 {
		t.Errorf("P5: a new table has the owners %v", got)
	}
	l.Take(9, "y", true)
	l.Take(5, "x", true)
	l.Take(5, "z", true)
	l.Take(7, "x", false)
	if got := fmt.Sprint(l.Owners(), l.Awaits(5), l.Awaits(7), l.Awaits(9)); got != "[5 7 9] false true false" {
		t.Errorf("P18: %s hold or await locks", got)
	}
	l.Free(5)
	if got := fmt.Sprint(l.Owners(), l.Awaits(7)); got != "[7 9] false" {
		t.Errorf("P18: %s hold or await locks", got)
	}
}
