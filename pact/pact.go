// Package pact: a store of keys in shards, with transactions. See DOC.md.
package pact

import (
	"pact/api"
	"pact/lock"
	"pact/wire"
)

// Encode writes a message (P3).
func Encode(m api.Message) (string, api.Errno) {
	if !wire.Sendable(m) {
		return "", api.ErrArg
	}
	return wire.Write(m), api.OK
}

// Decode reads a message (P4).
func Decode(s string) (m api.Message, e api.Errno) {
	defer func() {
		if caught := recover(); caught != nil {
			m, e = api.Message{}, wire.Reason(caught)
		}
	}()
	return wire.Read(s), api.OK
}

// Locks is a table of locks.
type Locks struct {
	table lock.Table[int]
}

// NewLocks makes a table for so many locks (P5).
func NewLocks(most int) *Locks {
	if most < 1 || most > api.MaxLocks {
		return nil
	}
	return &Locks{table: lock.New[int](most)}
}

// Take asks for the lock of a key: the answer; the transactions that are wounded; who else has got a lock now (P6).
func (x *Locks) Take(tx int, key int, write bool) (int, []int, []api.Grant) {
	if x == nil || !isOwner(tx) || key < 0 || key >= api.Keys {
		return 0, nil, nil
	}
	answer, wounded, got := x.table.Take(tx, key, write)
	return answer, wounded, grants(got)
}

// Hold: a transaction is prepared: nobody wounds it any more (P7).
func (x *Locks) Hold(tx int) {
	if x != nil && isOwner(tx) {
		x.table.Hold(tx)
	}
}

// Free: a transaction gives up its locks; who has got one now (P8).
func (x *Locks) Free(tx int) []api.Grant {
	if x == nil || !isOwner(tx) {
		return nil
	}
	return grants(x.table.Free(tx))
}

// Waits tells who waits for whom (P9).
func (x *Locks) Waits() []api.Wait {
	if x == nil {
		return nil
	}
	return x.table.Waits()
}

func isOwner(tx int) bool {
	return tx >= 1 && tx <= api.MaxOwner
}

func grants(list []lock.Grant[int]) []api.Grant {
	var told []api.Grant
	for _, g := range list {
		told = append(told, api.Grant(g))
	}
	return told
}

// Cluster is all nodes, and the net between them.
type Cluster struct{}

// New makes a cluster (P10).
func New(c api.Config) (*Cluster, api.Errno) { return nil, api.OK }

// Do does a step of a script (P11 to P16).
func (x *Cluster) Do(s api.Step) {}

// Bag tells the packets that are on their way.
func (x *Cluster) Bag() []string { return nil }

// History tells the calls of the clients and their answers.
func (x *Cluster) History() []api.Event { return nil }

// Decided tells what was decided, in order (P20).
func (x *Cluster) Decided() []api.Decision { return nil }

// Outcomes tells what a node knows of transactions, by their numbers (P19).
func (x *Cluster) Outcomes(node int) []api.Decision { return nil }

// Applied tells what a server has applied of its shard's log, in order (P18).
func (x *Cluster) Applied(node int) []string { return nil }

// Held tells the transactions that hold or await locks at a server (P22).
func (x *Cluster) Held(node int) []int { return nil }

// Stored tells what a node has stored, as a text (P24).
func (x *Cluster) Stored(node int) string { return "" }

// Reopen makes a cluster of what its nodes have stored (P24).
func Reopen(c api.Config, stored []string) (*Cluster, api.Errno) { return nil, api.OK }

// State tells all that a node knows, as a text (P12).
func (x *Cluster) State(node int) string { return "" }
