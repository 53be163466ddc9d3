// Package tally: who has said what, whatever it is that is said.
package tally

import (
	"cmp"
	"iter"
	"math/bits"

	"pact/api"
	"pact/keep"
)

// Tally keeps who has said what. At first nobody has said anything.
type Tally[K cmp.Ordered] struct {
	said keep.Table[K, uint64] // a bit for each node that has said it: who says it twice counts once
}

// Say: a node says something; how many have said it by now.
func (t *Tally[K]) Say(what K, who int) int {
	if 0 <= who && who <= api.MaxNode {
		*t.said.At(what) |= 1 << who
	}
	return bits.OnesCount64(t.said.Get(what))
}

// Has says whether a node has said something.
func (t *Tally[K]) Has(what K, who int) bool {
	return 0 <= who && who <= api.MaxNode && t.said.Get(what)>>who&1 == 1
}

// Drop forgets who has said something.
func (t *Tally[K]) Drop(what K) { t.said.Drop(what) }

// All goes through what was said and who has said it, rising.
func (t *Tally[K]) All() iter.Seq2[K, int] {
	return func(yield func(K, int) bool) {
		for what, who := range t.said.All() {
			for ; who != 0; who &= who - 1 {
				if !yield(what, bits.TrailingZeros64(who)) {
					return
				}
			}
		}
	}
}
