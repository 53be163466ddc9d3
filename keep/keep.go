// Package keep: tables that keep things by keys, of whatever kind that has an order.
package keep

import (
	"cmp"
	"iter"
	"slices"
)

type row[K cmp.Ordered, V any] struct {
	key   K
	thing V
}

// Table keeps a thing for each of its keys. At first it has none.
type Table[K cmp.Ordered, V any] struct {
	rows []row[K, V] // by rising keys: so what a table tells hangs on what it keeps alone
}

// Get tells what is kept for a key; a zero value, if nothing is.
func (t *Table[K, V]) Get(key K) V {
	if at, is := t.find(key); is {
		return t.rows[at].thing
	}
	var none V
	return none
}

// At is the place of a key, which is there from then on. It holds only till the next place is made.
func (t *Table[K, V]) At(key K) *V {
	at, is := t.find(key)
	if !is {
		t.rows = slices.Insert(t.rows, at, row[K, V]{key: key})
	}
	return &t.rows[at].thing
}

// All goes through the keys and things, by rising keys.
func (t *Table[K, V]) All() iter.Seq2[K, V] {
	return func(yield func(K, V) bool) {
		for _, r := range t.rows {
			if !yield(r.key, r.thing) {
				return
			}
		}
	}
}

func (t *Table[K, V]) find(key K) (int, bool) {
	return slices.BinarySearchFunc(t.rows, key, func(r row[K, V], key K) int { return cmp.Compare(r.key, key) })
}
