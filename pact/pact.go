// Package pact: a store of keys in shards, with transactions. See DOC.md.
package pact

import (
	"pact/api"
	"pact/lock"
	"pact/wire"
)

// Encode writes a message (P3).
func Encode(m api.Message) (string, api.Errno) {
	if !wire.Sendable(m) {
		return "", api.ErrArg
	}
	return wire.Write(m), api.OK
}

// Decode reads a message (P4).
func Decode(s string) (m api.Message, e api.Errno) {
	defer func() {
		if caught := recover(); caught != nil {
			m, e = api.Message{}, wire.Reason(caught)
		}
	}()
	return wire.Read(s), api.OK
}

// Locks is a table of locks.
type Locks struct {
	table lock.Table[int]
}

// NewLocks makes a table for so many locks (P5).
func NewLocks(most int) *Locks {
	if most < 1 || most > api.MaxLocks {
		return nil
	}
	return &Locks{table: lock.New[int](most)}
}

// Take asks for the lock of a key: the answer; the transactions that are wounded; who else has got a lock now (P6).
func (x *Locks) Take(tx int, key int, write bool) (int, []int, []api.Grant) {
	if x == nil || !isOwner(tx) || key < 0 || key >= api.Keys {
		return 0, nil, nil
	}
	answer, wounded, got := x.table.Take(tx, key, write)
	return answer, wounded, grants(got)
}

// Hold: a transaction is prepared: nobody wounds it any more (P7).
func (x *Locks) Hold(tx int) {
	if x != nil && isOwner(tx) {
		x.table.Hold(tx)
	}
}

// Free: a transaction gives up its locks; who has got one now (P8).
func (x *Locks) Free(tx int) []api.Grant {
	if x == nil || !isOwner(tx) {
		return nil
	}
	return grants(x.table.Free(tx))
}

// Waits tells who waits for whom (P9).
func (x *Locks) Waits() []api.Wait {
	if x == nil {
		return nil
	}
	return x.table.Waits()
}

func isOwner(tx int) bool {
	return tx >= 1 && tx <= api.MaxOwner
}

func grants(list []lock.Grant[int]) []api.Grant {
	var told []api.Grant
	for _, g := range list {
		told = append(told, api.Grant(g))
	}
	return told
}
