package keep

import (
	"cmp"
	"testing"
)

// held: what a table of these keys tells, each put in with its place in the row (a key that comes again has its last one).
func held[K cmp.Ordered](keys ...K) (order []K, things []int) {
	var t Table[K, int]
	for i, k := range keys {
		*t.At(k) = i
	}
	for k, i := range t.All() {
		order, things = append(order, k), append(things, i)
	}
	return order, things
}

func same[K comparable](t *testing.T, got, want []K) {
	t.Helper()
	if len(got) != len(want) {
		t.Fatalf("%v, want %v", got, want)
	}
	for i := range got {
		if got[i] != want[i] {
			t.Fatalf("%v, want %v", got, want)
		}
	}
}

func TestTablesOfSeveralKinds(t *testing.T) {
	texts, things := held("s1", "", "v4.0", "s0", "v10.0", "s1")
	same(t, texts, []string{"", "s0", "s1", "v10.0", "v4.0"})
	same(t, things, []int{1, 3, 5, 4, 2})
	numbers, things := held(7, -1, 240, 7, 0)
	same(t, numbers, []int{-1, 0, 7, 240})
	same(t, things, []int{1, 4, 3, 2})
	bytes, things := held[byte]()
	same(t, bytes, nil)
	same(t, things, nil)
}

func TestGet(t *testing.T) {
	var table Table[int, string]
	if got := table.Get(3); got != "" {
		t.Errorf("an empty table has %q", got)
	}
	*table.At(3) = "three"
	for key, want := range map[int]string{2: "", 3: "three", 4: ""} {
		if got := table.Get(key); got != want {
			t.Errorf("for %d it has %q, want %q", key, got, want)
		}
	}
	for range table.All() {
		break
	}
	if n := len(table.rows); n != 1 {
		t.Errorf("looking has made %d rows of 1", n)
	}
}

func TestDrop(t *testing.T) {
	var table Table[string, int]
	for i, k := range []string{"b", "a", "c"} {
		*table.At(k) = i
	}
	table.Drop("x")
	keys := table.Keys()
	for range keys { // rows may go while the keys are gone through
		table.Drop("a")
	}
	same(t, keys, []string{"a", "b", "c"})
	same(t, table.Keys(), []string{"b", "c"})
	if table.Has("a") || !table.Has("b") || table.Get("a") != 0 || table.Get("c") != 2 {
		t.Errorf("behind Drop there is %v", table.rows)
	}
}
