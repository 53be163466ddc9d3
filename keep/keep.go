// Package keep: tables that keep things by keys, of whatever kind that has an order.
package keep

import (
	"cmp"
	"iter"
	"slices"
)

type row[K cmp.Ordered, V any] struct {
	key   K
	thing V
}

// Table keeps a thing for each of its keys. At first it has none.
type Table[K cmp.Ordered, V any] struct {
	rows []row[K, V] // by rising keys: so what a table tells hangs on what it keeps alone
}

// Has says whether something is kept for a key.
func (t *Table[K, V]) Has(key K) bool {
	_, is := t.find(key)
	return is
}

// Get tells what is kept for a key; a zero value, if nothing is.
func (t *Table[K, V]) Get(key K) V {
	if at, is := t.find(key); is {
		return t.rows[at].thing
	}
	var none V
	return none
}

// At is the place of a key, which is there from then on. It holds only till the next place is made.
func (t *Table[K, V]) At(key K) *V {
	at, is := t.find(key)
	if !is {
		t.rows = slices.Insert(t.rows, at, row[K, V]{key: key})
	}
	return &t.rows[at].thing
}

// Drop forgets what is kept for a key.
func (t *Table[K, V]) Drop(key K) {
	if at, is := t.find(key); is {
		t.rows = slices.Delete(t.rows, at, at+1)
	}
}

// Keys tells the keys, rising: a list of its own, so that rows may come and go while it is gone through.
func (t *Table[K, V]) Keys() []K {
	var keys []K
	for _, r := range t.rows {
		keys = append(keys, r.key)
	}
	return keys
}

// All goes through the keys and things, by rising keys.
func (t *Table[K, V]) All() iter.Seq2[K, V] {
	return func(yield func(K, V) bool) {
		for _, r := range t.rows {
			if !yield(r.key, r.thing) {
				return
			}
		}
	}
}

func (t *Table[K, V]) find(key K) (int, bool) {
	return slices.BinarySearchFunc(t.rows, key, func(r row[K, V], key K) int { return cmp.Compare(r.key, key) })
}
