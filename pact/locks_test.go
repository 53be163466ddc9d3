package pact_test

import (
	"fmt"
	"math"
	"slices"
	"strings"
	"sync"
	"testing"

	"pact/api"
	"pact/pact"
)

// act does one step on a table and tells its answer: "r5.0" is Take by 5 of key 0 to read, "w5.0" to write, "h5" Hold, "f5" Free, "?" Waits.
func act(t *testing.T, l *pact.Locks, step string) string {
	t.Helper()
	form, tx, key := "%d", 0, 0
	into := []any{&tx, &key}
	switch step[0] {
	case '?':
		return fmt.Sprint(l.Waits())
	case 'h', 'f':
		into = into[:1]
	default:
		form = "%d.%d"
	}
	if _, err := fmt.Sscanf(step[1:], form, into...); err != nil {
		t.Fatalf("the test's step %q is none: %v", step, err)
	}
	switch step[0] {
	case 'h':
		l.Hold(tx)
		return ""
	case 'f':
		return fmt.Sprint(l.Free(tx))
	}
	a, w, g := l.Take(tx, key, step[0] == 'w')
	return fmt.Sprint(a, w, g)
}

// play does steps one after the other, "step: answer" each; those that begin with a dot must be granted alone, or answer nothing.
func play(t *testing.T, what string, l *pact.Locks, steps ...string) {
	t.Helper()
	for i, s := range steps {
		step, want, _ := strings.Cut(s, ": ")
		if bare, ok := strings.CutPrefix(step, "."); ok {
			step, want = bare, map[byte]string{'r': "1 [] []", 'w': "1 [] []", 'f': "[]", '?': "[]"}[bare[0]]
		}
		if got := act(t, l, step); got != want {
			t.Errorf("%s: step %d, %s: %q, want %q", what, i, step, got, want)
		}
	}
}

// wild: numbers at the edges of what an int can be.
func wild() []int {
	return []int{math.MinInt, math.MinInt + 1, -1 << 32, -1001, -1, 1 << 32, 1<<32 + 1, 1<<62 + 5, math.MaxInt - 1, math.MaxInt}
}

func TestNewLocks(t *testing.T) {
	for _, n := range append(wild(), 0, api.MaxLocks+1, api.MaxOwner) {
		if pact.NewLocks(n) != nil {
			t.Errorf("P5: NewLocks(%d) is not nil", n)
		}
	}
	for n := 1; n <= api.MaxLocks; n++ {
		l := pact.NewLocks(n)
		if l == nil {
			t.Fatalf("P5: NewLocks(%d) is nil", n)
		}
		for i := range n {
			if a, w, g := l.Take(1+i, i%api.Keys, false); a != api.Granted || len(w)+len(g) != 0 {
				t.Errorf("P5: a table for %d: lock %d: %d, %v, %v", n, i, a, w, g)
			}
		}
		play(t, fmt.Sprint("P6: a table for ", n), l, "r1000.5: 3 [] []", ".?")
	}
}

func TestNewTableIsEmpty(t *testing.T) {
	for _, tx := range []int{1, 2, 500, api.MaxOwner} {
		for key := range api.Keys {
			l := pact.NewLocks(1)
			if w := l.Waits(); len(w) != 0 {
				t.Errorf("P5: on a new table some wait: %v", w)
			}
			if g := l.Free(tx); len(g) != 0 {
				t.Errorf("P5: on a new table Free(%d) gives %v", tx, g)
			}
			if a, w, g := l.Take(tx, key, true); a != api.Granted || len(w)+len(g) != 0 {
				t.Errorf("P5: on a new table Take(%d, %d, true): %d, %v, %v", tx, key, a, w, g)
			}
		}
	}
}

func TestNilLocks(t *testing.T) {
	var l *pact.Locks
	for _, tx := range append(wild(), 0, 1, 5, api.MaxOwner, api.MaxOwner+1) {
		for _, key := range append(wild(), 0, 5, 6) {
			for _, write := range []bool{false, true} {
				if a, w, g := l.Take(tx, key, write); a != 0 || len(w)+len(g) != 0 {
					t.Errorf("P1: Take(%d, %d, %v) on nil: %d, %v, %v", tx, key, write, a, w, g)
				}
			}
		}
		l.Hold(tx)
		if g := l.Free(tx); len(g) != 0 {
			t.Errorf("P1: Free(%d) on nil: %v", tx, g)
		}
	}
	if w := l.Waits(); len(w) != 0 {
		t.Errorf("P1: Waits on nil: %v", w)
	}
}

func TestTakeOfNone(t *testing.T) {
	l := pact.NewLocks(3)
	play(t, "P6: before", l, ".w500.0", "r700.0: 2 [] []")
	for _, write := range []bool{false, true} {
		for _, tx := range append(wild(), 0, api.MaxOwner+1) {
			for _, key := range []int{0, 5, -1, 6} {
				if a, w, g := l.Take(tx, key, write); a != 0 || len(w)+len(g) != 0 {
					t.Errorf("P6: Take(%d, %d, %v): %d, %v, %v", tx, key, write, a, w, g)
				}
			}
			l.Hold(tx)
			if g := l.Free(tx); len(g) != 0 {
				t.Errorf("P8: Free(%d): %v", tx, g)
			}
		}
		for _, key := range append(wild(), -1, api.Keys) {
			for _, tx := range []int{1, 500, api.MaxOwner} {
				if a, w, g := l.Take(tx, key, write); a != 0 || len(w)+len(g) != 0 {
					t.Errorf("P6: Take(%d, %d, %v): %d, %v, %v", tx, key, write, a, w, g)
				}
			}
		}
	}
	play(t, "P6: one that is none changes nothing", l, "?: [{700 500}]", ".w1.5", "w1.6: 0 [] []", "w1.4: 3 [] []", "w0.4: 0 [] []", "f500: [{700 0}]")
}

func TestTakeAtTheEdges(t *testing.T) {
	play(t, "P6: the edges", pact.NewLocks(4), ".w1000.5", ".w1000.0", "w1.5: 1 [1000] []", ".w1.0", "r1000.0: 2 [] []", "?: [{1000 1}]", "f1: [{1000 0}]")
}

func TestTakeByOneThatWaits(t *testing.T) {
	play(t, "P6: one that waits", pact.NewLocks(24), ".w1.0", ".r2.1", "w2.0: 2 [] []",
		"w2.0: 0 [] []", "r2.0: 0 [] []", "w2.3: 0 [] []", "r2.1: 0 [] []", "w2.1: 0 [] []",
		"?: [{2 1}]", ".w3.3", "f1: [{2 0}]", ".r2.1", "w2.3: 1 [3] []")
	play(t, "P6: one that waits on a full table", pact.NewLocks(2), ".w1.0", "w2.0: 2 [] []", "w2.1: 0 [] []", "w3.1: 3 [] []")
	play(t, "P6: one that waits wounds nobody", pact.NewLocks(24), ".w1.0", ".w3.1", "w2.0: 2 [] []", "w2.1: 0 [] []", ".w3.1")
}

func TestTakeWhatIsHeld(t *testing.T) {
	play(t, "P6: held to read", pact.NewLocks(2), ".r5.0", ".r5.0", ".r6.0", ".r5.0", ".r6.0", "r7.0: 3 [] []")
	play(t, "P6: held to write", pact.NewLocks(1), ".w5.0", ".w5.0", ".r5.0", ".w5.0", "r5.1: 3 [] []")
	play(t, "P6: held to write and asked for to read stays so", pact.NewLocks(3), ".w5.0", ".r5.0", "r6.0: 2 [] []", "?: [{6 5}]")
	play(t, "P6: held, and an older one waits", pact.NewLocks(9), ".r5.0", ".h5", "w3.0: 2 [] []", ".r5.0", "?: [{3 5}]")
	play(t, "P6: held, and it wounds nobody", pact.NewLocks(9), ".r5.0", ".r6.0", ".r5.0", ".r6.0", ".w5.1", "r6.1: 2 [] []", ".r5.1", ".w5.1", "?: [{6 5}]")
}

func TestReadThatIsAskedForToWrite(t *testing.T) {
	play(t, "P6: alone", pact.NewLocks(2), ".r5.0", ".w5.0", "r6.0: 2 [] []", "?: [{6 5}]")
	play(t, "P6: beside an older reader", pact.NewLocks(9), ".r5.0", ".r6.0", "w6.0: 2 [] []", "?: [{6 5}]", "f5: [{6 0}]", "r7.0: 2 [] []", "f6: [{7 0}]")
	play(t, "P6: it keeps what it has while it waits", pact.NewLocks(9), ".r5.0", ".r6.0", "w6.0: 2 [] []", ".r5.0", "w5.0: 1 [6] []", ".?")
	play(t, "P6: beside younger readers", pact.NewLocks(9), ".r7.0", ".r5.0", ".r6.0", "w5.0: 1 [6 7] []", "r6.0: 2 [] []", "?: [{6 5}]")
	play(t, "P6: beside a prepared reader", pact.NewLocks(9), ".r5.0", ".r6.0", ".h6", "w5.0: 2 [] []", "?: [{5 6}]", "f6: [{5 0}]", "r4.0: 1 [5] []")
	play(t, "P6: two that want it", pact.NewLocks(9), ".r5.0", ".r6.0", "w6.0: 2 [] []", "w5.0: 1 [6] []", ".?", ".f5")
	play(t, "P6: on a full table", pact.NewLocks(1), ".r5.0", "w5.0: 3 [] []", ".r5.0", ".f5", ".w5.0", ".r5.0")
	play(t, "P6: it is two while it waits, and one behind that", pact.NewLocks(3), ".r5.0", ".r6.0", "w6.0: 2 [] []", "r5.1: 3 [] []", "f5: [{6 0}]", ".r6.1", ".r6.2", "r6.3: 3 [] []")
	play(t, "P6: an older reader passes the wait of a younger one", pact.NewLocks(9), ".r5.0", ".r7.0", "w7.0: 2 [] []", ".r6.0", "r8.0: 2 [] []", "?: [{7 5} {7 6} {8 7}]", ".f5", "f6: [{7 0}]", "f7: [{8 0}]")
}

func TestFull(t *testing.T) {
	play(t, "P6: a full table wounds nobody", pact.NewLocks(2), ".w5.0", ".w6.1", "w1.0: 3 [] []", "r1.1: 3 [] []", "r1.2: 3 [] []", ".?", ".w5.0", ".w6.1", ".f6", "w1.0: 1 [5] []")
	play(t, "P6: those that wait count", pact.NewLocks(3), ".w5.0", "w6.0: 2 [] []", "w7.0: 2 [] []", "w8.1: 3 [] []", "r8.0: 3 [] []", "f7: []", "r8.0: 2 [] []")
	play(t, "P6: the wounded don't count any more", pact.NewLocks(4), ".w5.0", ".w5.1", ".w5.2", "r4.1: 1 [5] []", ".r4.2", ".r4.3", ".r4.4", "r4.5: 3 [] []")
	play(t, "P6: one that asks in vain does not wait", pact.NewLocks(1), ".w5.0", "w6.0: 3 [] []", ".f5", ".w7.0")
	play(t, "P6: it is full before anybody is wounded", pact.NewLocks(1), ".w5.0", "w4.0: 3 [] []", ".w5.0")
}

func TestWhoIsWounded(t *testing.T) {
	play(t, "P6: the younger, not the older", pact.NewLocks(9), ".r3.0", ".r5.0", ".r7.0", "w4.0: 2 [5 7] []", "?: [{4 3}]", "f3: [{4 0}]")
	play(t, "P6: a reader wounds no reader", pact.NewLocks(9), ".r7.0", ".r5.0", ".r3.0", ".?")
	play(t, "P6: a reader wounds a writer", pact.NewLocks(9), ".w7.0", "r3.0: 1 [7] []")
	play(t, "P6: the prepared are not", pact.NewLocks(9), ".r5.0", ".r6.0", ".r7.0", ".h6", "w4.0: 2 [5 7] []", "?: [{4 6}]")
	play(t, "P6: holders of other keys are not", pact.NewLocks(9), ".w5.1", ".w6.2", ".w7.0", "w4.0: 1 [7] []", ".w5.1", ".w6.2")
	play(t, "P6: one that waits for the key alone is not", pact.NewLocks(9), ".w3.0", "w7.0: 2 [] []", "w5.0: 2 [] []", "?: [{5 3} {7 3} {7 5}]", "f3: [{5 0}]")
	play(t, "P6: rising, in whatever order they came", pact.NewLocks(9), ".r900.0", ".r20.0", ".r100.0", ".r9.0", "w8.0: 1 [9 20 100 900] []")
	play(t, "P6: also if tx must wait", pact.NewLocks(9), ".r900.0", ".r20.0", ".r2.0", ".r100.0", "w8.0: 2 [20 100 900] []")
	play(t, "P6: the wounded hold and await nothing", pact.NewLocks(24), ".w5.0", ".w5.1", ".r5.2", ".w3.3", "w5.3: 2 [] []", "?: [{5 3}]",
		"r4.0: 1 [5] []", ".?", ".w6.1", ".w6.2", "f3: []", ".w5.3", "w5.1: 1 [6] []")
	play(t, "P6: what the wounded awaited another may have", pact.NewLocks(24), ".r2.0", ".r7.1", "w7.0: 2 [] []", "r8.0: 2 [] []", "?: [{7 2} {8 7}]", "w6.1: 1 [7] [{8 0}]", ".?")
	play(t, "P6: one that was wounded can be wounded again", pact.NewLocks(24), ".w5.0", "w4.0: 1 [5] []", "w5.0: 2 [] []", "f4: [{5 0}]", "w3.0: 1 [5] []")
	play(t, "P6: who is wounded was not prepared, and can be later", pact.NewLocks(24), ".w5.0", "w4.0: 1 [5] []", ".w5.1", ".h5", "w3.1: 2 [] []", "?: [{3 5}]")
}

func TestWhoGetsALock(t *testing.T) {
	play(t, "P6: the others, the oldest first", pact.NewLocks(24), ".w5.0", ".w5.1", ".w5.2", "r9.1: 2 [] []", "w7.2: 2 [] []", "r8.0: 2 [] []", "r6.0: 2 [] []", "r4.0: 1 [5] [{6 0} {7 2} {8 0} {9 1}]", ".?")
	play(t, "P6: also if tx does not get its own", pact.NewLocks(24), ".r5.0", ".w5.1", ".r6.0", ".h6", "r7.1: 2 [] []", "w4.0: 2 [5] [{7 1}]", "?: [{4 6}]")
	play(t, "P6: not behind an older writer that waits", pact.NewLocks(24), ".w1.0", "r3.0: 2 [] []", "w4.0: 2 [] []", "r5.0: 2 [] []", "r2.0: 2 [] []", "f1: [{2 0} {3 0}]", "?: [{4 2} {4 3} {5 4}]", ".f3", "f2: [{4 0}]", "f4: [{5 0}]")
	play(t, "P6: a new reader does not pass an older writer", pact.NewLocks(24), ".r1.0", "w2.0: 2 [] []", "r3.0: 2 [] []", "f2: [{3 0}]")
	play(t, "P6: a new reader passes a younger writer", pact.NewLocks(24), ".r1.0", "w3.0: 2 [] []", ".r2.0", "?: [{3 1} {3 2}]")
	play(t, "P6: a new writer waits behind an older reader that waits", pact.NewLocks(24), ".w1.0", ".h1", "r2.0: 2 [] []", "w3.0: 2 [] []", "?: [{2 1} {3 1} {3 2}]", "f1: [{2 0}]", "f2: [{3 0}]")
	play(t, "P6: given to write", pact.NewLocks(24), ".w1.0", "w2.0: 2 [] []", "f1: [{2 0}]", "r3.0: 2 [] []", "?: [{3 2}]", ".r2.0", ".w2.0")
	play(t, "P6: given to read", pact.NewLocks(24), ".w1.0", "r2.0: 2 [] []", "f1: [{2 0}]", ".r3.0", "w2.0: 1 [3] []")
	play(t, "P6: one writer of two, and then the other", pact.NewLocks(24), ".w1.0", "w3.0: 2 [] []", "w2.0: 2 [] []", "f1: [{2 0}]", "?: [{3 2}]", "f2: [{3 0}]")
	play(t, "P6: other keys' waits don't hinder", pact.NewLocks(24), ".w1.0", "w2.0: 2 [] []", ".w3.1", ".r4.2")
	play(t, "P6: one that has got its lock can take another", pact.NewLocks(24), ".w1.0", "w2.0: 2 [] []", "f1: [{2 0}]", ".w2.1", ".r2.2")
}

func TestHold(t *testing.T) {
	play(t, "P7: one that is prepared is not wounded", pact.NewLocks(24), ".w5.0", ".h5", "w3.0: 2 [] []", "?: [{3 5}]", "f5: [{3 0}]", ".?")
	play(t, "P7: not by what it takes later, either", pact.NewLocks(24), ".h5", ".w5.0", "r3.0: 2 [] []", "?: [{3 5}]")
	play(t, "P7: twice is once", pact.NewLocks(24), ".w5.0", ".h5", ".h5", ".f5", ".w5.0", "w3.0: 1 [5] []")
	play(t, "P7: one that waits is not prepared", pact.NewLocks(24), ".w1.0", ".w5.1", "w5.0: 2 [] []", ".h5", "r3.1: 1 [5] []", ".?")
	play(t, "P7: nor later, when it has its lock", pact.NewLocks(24), ".w1.0", "w5.0: 2 [] []", ".h5", "f1: [{5 0}]", "w3.0: 1 [5] []")
	play(t, "P7: when it has its lock it can be", pact.NewLocks(24), ".w1.0", "w5.0: 2 [] []", "f1: [{5 0}]", ".h5", "w3.0: 2 [] []")
	play(t, "P7: one that is prepared and waits stays prepared", pact.NewLocks(24), ".w5.1", ".h5", ".w1.0", "w5.0: 2 [] []", ".h5", "w3.1: 2 [] []", "?: [{3 5} {5 1}]", "f1: [{5 0}]", "r4.0: 2 [] []")
	play(t, "P7: Free ends it", pact.NewLocks(24), ".w5.0", ".h5", ".f5", ".w5.0", "w3.0: 1 [5] []")
	play(t, "P7: only that one's", pact.NewLocks(24), ".w5.0", ".h5", ".w6.1", ".h6", ".w7.2", ".h7", ".f6", ".w6.1", "w3.0: 2 [] []", "w2.1: 1 [6] []", "w1.2: 2 [] []")
	play(t, "P7: the oldest and the youngest", pact.NewLocks(24), ".h1000", ".w1000.5", ".h1", "w1.5: 2 [] []", "?: [{1 1000}]")
	play(t, "P7: it takes no room", pact.NewLocks(1), ".h5", ".h6", ".w7.0", "w5.1: 3 [] []")
}

func TestFree(t *testing.T) {
	play(t, "P8: the oldest first", pact.NewLocks(24), ".w1.0", ".w1.3", ".w1.5", "r9.0: 2 [] []", "w7.3: 2 [] []", "r8.0: 2 [] []", "w6.5: 2 [] []", "w5.3: 2 [] []", "f1: [{5 3} {6 5} {8 0} {9 0}]", "?: [{7 5}]")
	play(t, "P8: it waits no more", pact.NewLocks(24), ".r1.0", "w2.0: 2 [] []", "r3.0: 2 [] []", "f2: [{3 0}]", ".?", ".f1", ".w2.1")
	play(t, "P8: it holds no lock", pact.NewLocks(24), ".w1.0", ".r1.1", ".w1.2", ".f1", ".w2.0", ".w2.1", ".w2.2")
	play(t, "P8: one that has nothing", pact.NewLocks(24), ".f5", ".w1.0", "w2.0: 2 [] []", ".f5", ".f1000", "?: [{2 1}]")
	play(t, "P8: twice is once", pact.NewLocks(24), ".w1.0", "w2.0: 2 [] []", "f1: [{2 0}]", ".f1", "r3.0: 2 [] []")
	play(t, "P8: one of two readers", pact.NewLocks(24), ".r1.0", ".r2.0", "w3.0: 2 [] []", ".f1", "?: [{3 2}]", "f2: [{3 0}]")
	play(t, "P8: it may begin anew", pact.NewLocks(1), ".w1.0", ".f1", ".w1.1", ".f1", ".w1.0")
}

func TestWaits(t *testing.T) {
	play(t, "P9: nobody", pact.NewLocks(24), ".?", ".w1.0", ".r2.1", ".r3.1", ".?")
	play(t, "P9: each pair once, if one holds the lock and waits for it", pact.NewLocks(24), ".r1.0", ".r2.0", "w2.0: 2 [] []", "w3.0: 2 [] []", "r4.0: 2 [] []", "?: [{2 1} {3 1} {3 2} {4 2} {4 3}]")
	play(t, "P9: by the first, and then by the second", pact.NewLocks(24), ".r7.0", ".h7", ".r2.0", ".r5.0", ".h5", "w9.0: 2 [] []", "w3.0: 2 [] []", "w8.0: 2 [] []", "?: [{3 2} {3 5} {3 7} {8 2} {8 3} {8 5} {8 7} {9 2} {9 3} {9 5} {9 7} {9 8}]")
	play(t, "P9: not for those that only read", pact.NewLocks(24), ".w1.0", "r2.0: 2 [] []", "r3.0: 2 [] []", "?: [{2 1} {3 1}]")
	play(t, "P9: not for younger ones that wait", pact.NewLocks(24), ".w1.0", "w9.0: 2 [] []", "w8.0: 2 [] []", "?: [{8 1} {9 1} {9 8}]")
	play(t, "P9: keys apart", pact.NewLocks(24), ".w1.0", ".w2.1", "w3.0: 2 [] []", "w4.1: 2 [] []", "?: [{3 1} {4 2}]")
	play(t, "P9: it changes nothing", pact.NewLocks(24), ".w1.0", "w3.0: 2 [] []", "?: [{3 1}]", "?: [{3 1}]", "f1: [{3 0}]")
}

// plain is a table of locks as P5 to P9 say it, by going through all transactions and all keys.
type plain struct {
	most     int
	holds    [api.MaxOwner + 1][api.Keys]int // 0 nothing, 1 to read, 2 to write
	wants    [api.MaxOwner + 1]int           // likewise
	wanted   [api.MaxOwner + 1]int           // the key of which it waits for the lock
	prepared [api.MaxOwner + 1]bool
}

func clash(a, b int) bool { return a > 0 && b > 0 && a+b > 2 }

func (p *plain) count() int {
	n := 0
	for tx := 1; tx <= api.MaxOwner; tx++ {
		for key := range api.Keys {
			n += min(p.holds[tx][key], 1)
		}
		n += min(p.wants[tx], 1)
	}
	return n
}

// blockers: whom one that waits waits for, rising.
func (p *plain) blockers(tx int) []int {
	var list []int
	for other := 1; other <= api.MaxOwner; other++ {
		key, how := p.wanted[tx], p.wants[tx]
		older := other < tx && p.wanted[other] == key && clash(p.wants[other], how)
		if other != tx && (older || clash(p.holds[other][key], how)) {
			list = append(list, other)
		}
	}
	return list
}

func (p *plain) goThrough() []api.Grant {
	var got []api.Grant
	for tx := 1; tx <= api.MaxOwner; tx++ {
		if key := p.wanted[tx]; p.wants[tx] > 0 && len(p.blockers(tx)) == 0 {
			p.holds[tx][key] = max(p.holds[tx][key], p.wants[tx])
			p.wants[tx] = 0
			got = append(got, api.Grant{Tx: tx, Key: key})
		}
	}
	return got
}

func (p *plain) Take(tx, key int, write bool) (int, []int, []api.Grant) {
	how := 1
	if write {
		how = 2
	}
	switch {
	case tx < 1 || tx > api.MaxOwner || key < 0 || key >= api.Keys || p.wants[tx] > 0:
		return 0, nil, nil
	case p.holds[tx][key] >= how:
		return api.Granted, nil, nil
	case p.count() >= p.most:
		return api.Full, nil, nil
	}
	var wounded []int
	for other := tx + 1; other <= api.MaxOwner; other++ {
		if clash(p.holds[other][key], how) && !p.prepared[other] {
			wounded = append(wounded, other)
			p.holds[other], p.wants[other] = [api.Keys]int{}, 0
		}
	}
	p.wants[tx], p.wanted[tx] = how, key
	got := p.goThrough()
	if p.wants[tx] > 0 {
		return api.Waiting, wounded, got
	}
	return api.Granted, wounded, slices.DeleteFunc(got, func(g api.Grant) bool { return g.Tx == tx })
}

func (p *plain) Hold(tx int) {
	if tx >= 1 && tx <= api.MaxOwner && p.wants[tx] == 0 {
		p.prepared[tx] = true
	}
}

func (p *plain) Free(tx int) []api.Grant {
	if tx < 1 || tx > api.MaxOwner {
		return nil
	}
	p.holds[tx], p.wants[tx], p.prepared[tx] = [api.Keys]int{}, 0, false
	return p.goThrough()
}

func (p *plain) Waits() []api.Wait {
	var list []api.Wait
	for tx := 1; tx <= api.MaxOwner; tx++ {
		if p.wants[tx] == 0 {
			continue
		}
		for _, other := range p.blockers(tx) {
			list = append(list, api.Wait{Tx: tx, For: other})
		}
	}
	return list
}

// table is what a table and the plain one have in common.
type table interface {
	Take(tx, key int, write bool) (int, []int, []api.Grant)
	Hold(tx int)
	Free(tx int) []api.Grant
}

// drawn is one call that is drawn by lot.
type drawn struct {
	call, tx, key int
	write         bool
}

func (d *draw) call(txs, keys int) drawn {
	c := drawn{call: d.next(12), tx: 1 + d.next(txs), key: d.next(keys), write: d.next(2) == 0}
	if d.next(40) == 0 {
		c.tx = wild()[d.next(len(wild()))]
	}
	if d.next(40) == 0 {
		c.key = wild()[d.next(len(wild()))]
	}
	return c
}

// on does the call on a table and tells what it answers.
func (c drawn) on(l table) string {
	switch c.call {
	case 0, 1:
		return fmt.Sprint(l.Free(c.tx))
	case 2:
		l.Hold(c.tx)
		return ""
	default:
		a, w, g := l.Take(c.tx, c.key, c.write)
		return fmt.Sprint(a, w, g)
	}
}

func TestLocksAgainstAPlainTable(t *testing.T) {
	d := draw(7)
	for range 120 {
		most, txs, keys := 1+d.next(api.MaxLocks), 2+d.next(12), 1+d.next(api.Keys)
		l, p := pact.NewLocks(most), &plain{most: most}
		for range 60 {
			c := d.call(txs, keys)
			if got, want := c.on(l), c.on(p); got != want {
				t.Fatalf("P6 to P8: a table for %d, %+v: %s, want %s", most, c, got, want)
			}
			if got, want := fmt.Sprint(l.Waits()), fmt.Sprint(p.Waits()); got != want {
				t.Fatalf("P9: a table for %d, behind %+v: %s, want %s", most, c, got, want)
			}
		}
	}
}

// circle tells whether somebody waits for itself, over others.
func circle(list []api.Wait) bool {
	next := map[int][]int{}
	for _, w := range list {
		next[w.Tx] = append(next[w.Tx], w.For)
	}
	for start := range next {
		seen, work := map[int]int{}, slices.Clone(next[start])
		for len(work) > 0 {
			tx := work[0]
			work = work[1:]
			if tx == start {
				return true
			}
			if seen[tx] == 0 {
				seen[tx] = 1
				work = append(work, next[tx]...)
			}
		}
	}
	return false
}

func TestWhoWaitsWaitsForOlderOrPreparedOnes(t *testing.T) {
	d := draw(11)
	for range 200 {
		l, p := pact.NewLocks(api.MaxLocks), &plain{most: api.MaxLocks}
		for range 100 {
			c := d.call(10, 3)
			if c.call > 2 && c.tx >= 1 && c.tx <= 10 && p.prepared[c.tx] {
				continue
			}
			c.on(l)
			c.on(p)
			list := l.Waits()
			for _, w := range list {
				if w.For > w.Tx && !p.prepared[w.For] {
					t.Fatalf("P9: %d waits for %d, which is younger and not prepared", w.Tx, w.For)
				}
			}
			if circle(list) {
				t.Fatalf("P9: a circle of waits: %v", list)
			}
		}
	}
}

func TestLocksAtAnything(t *testing.T) {
	l := pact.NewLocks(api.MaxLocks)
	d := draw(3)
	numbers := append(wild(), 0, 1, 2, 5, 6, 999, 1000, 1001)
	for range 200000 {
		c := drawn{call: d.next(12), tx: numbers[d.next(len(numbers))], key: numbers[d.next(len(numbers))], write: d.next(2) == 0}
		c.on(l)
		if n := len(l.Waits()); n > api.MaxOwner {
			t.Fatalf("P9: %d pairs", n)
		}
	}
	for tx := 1; tx <= api.MaxOwner; tx++ {
		l.Hold(tx)
	}
	for tx := 1; tx <= api.MaxOwner; tx++ {
		l.Free(tx)
	}
	play(t, "P8: all are freed", l, ".?", ".w1000.5", "w1.5: 1 [1000] []")
	empty := &pact.Locks{}
	play(t, "P1: a table that nobody made", empty, "w1.0: 3 [] []", ".h1", ".f1", ".?")
}

// spoil writes over a list, its spare room too.
func spoil[T any](list []T, with T) {
	for i := range list[:cap(list)] {
		list[:cap(list)][i] = with
	}
}

func TestLocksAnswerNewMemory(t *testing.T) {
	d := draw(5)
	one, two := pact.NewLocks(api.MaxLocks), pact.NewLocks(api.MaxLocks)
	for range 3000 {
		c := d.call(12, 4)
		before, again := one.Waits(), one.Waits()
		told := fmt.Sprint(again)
		spoil(before, api.Wait{Tx: -7, For: -7})
		if fmt.Sprint(again) != told || fmt.Sprint(one.Waits()) != told || fmt.Sprint(two.Waits()) != told {
			t.Fatalf("P2: what is written into an answer of Waits is seen elsewhere")
		}
		if c.call > 2 {
			a, w, g := one.Take(c.tx, c.key, c.write)
			if got, want := fmt.Sprint(a, w, g), c.on(two); got != want {
				t.Fatalf("P2: what is written into answers is seen in Take: %s, want %s", got, want)
			}
			spoil(w, -7)
			spoil(g, api.Grant{Tx: -7, Key: -7})
			continue
		}
		if c.call == 2 {
			one.Hold(c.tx)
			two.Hold(c.tx)
			continue
		}
		g := one.Free(c.tx)
		if got, want := fmt.Sprint(g), c.on(two); got != want {
			t.Fatalf("P2: what is written into answers is seen in Free: %s, want %s", got, want)
		}
		spoil(g, api.Grant{Tx: -7, Key: -7})
	}
}

func TestLocksKeepApart(t *testing.T) {
	const tables, calls = 8, 2000
	alone := func(seed draw) []string {
		l, told := pact.NewLocks(9), []string{}
		for range calls {
			c := seed.call(9, 4)
			told = append(told, c.on(l), fmt.Sprint(l.Waits()))
		}
		return told
	}
	var want [tables][]string
	for i := range want {
		want[i] = alone(draw(100 + i))
	}
	var wait sync.WaitGroup
	for i := range want {
		wait.Go(func() {
			if got := alone(draw(100 + i)); !slices.Equal(got, want[i]) {
				t.Errorf("P2: table %d answers otherwise beside others", i)
			}
		})
	}
	wait.Wait()
	var mixed [tables]*pact.Locks
	var seeds [tables]draw
	for i := range mixed {
		mixed[i], seeds[i] = pact.NewLocks(9), draw(100+i)
	}
	for n := range calls {
		for i, l := range mixed {
			c := seeds[i].call(9, 4)
			if c.on(l) != want[i][2*n] || fmt.Sprint(l.Waits()) != want[i][2*n+1] {
				t.Fatalf("P2: table %d answers otherwise between others, at call %d", i, n)
			}
		}
	}
}
