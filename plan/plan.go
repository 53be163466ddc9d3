// Package plan: which clusters there can be, and which of their nodes is what: first the acceptors, then the servers, then the clients; and how shards, transactions and groups are numbered and named.
package plan

import (
	"strconv"
	"strings"

	"pact/api"
)

// Fits says whether there can be such a cluster.
func Fits(c api.Config) bool {
	return 0 <= c.F && c.F <= api.MaxFaults &&
		1 <= c.Shards && c.Shards <= api.MaxShards &&
		1 <= c.Clients && c.Clients <= api.MaxClients
}

// FirstServer tells the number of the first server: so many acceptors there are.
func FirstServer(c api.Config) int { return 2*c.F + 1 }

// FirstClient tells the number of the first client.
func FirstClient(c api.Config) int { return FirstServer(c) + api.Servers*c.Shards }

// Nodes tells how many nodes there are.
func Nodes(c api.Config) int { return FirstClient(c) + c.Clients }

// Majority tells how many acceptors are more than half of them, at least.
func Majority(c api.Config) int { return c.F + 1 }

// IsAcceptor says whether a node is an acceptor.
func IsAcceptor(c api.Config, node int) bool { return 0 <= node && node < FirstServer(c) }

// IsServer says whether a node is a server.
func IsServer(c api.Config, node int) bool { return FirstServer(c) <= node && node < FirstClient(c) }

// ShardOf tells in which shard a key lies.
func ShardOf(c api.Config, key int) int { return key % c.Shards }

// ServersOf tells the number of the first server of a shard; the other one is the next.
func ServersOf(c api.Config, shard int) int { return FirstServer(c) + api.Servers*shard }

// txStep: the n-th transaction of client c has the number txStep times n, and c.
const txStep = 4

// Tx tells the number of the n-th transaction of a client.
func Tx(client, n int) int { return txStep*n + client }

// IsTx says whether a client of the cluster can have begun a transaction of that number.
func IsTx(c api.Config, tx int) bool {
	return tx >= txStep && tx/txStep <= api.MaxTx && tx%txStep < c.Clients
}

// ClientOf tells the number of the node that has begun a transaction.
func ClientOf(c api.Config, tx int) int { return FirstClient(c) + tx%txStep }

// LogGroup names the log of a shard.
func LogGroup(shard int) string { return "s" + strconv.Itoa(shard) }

// voteMark is what the names of votes begin with.
const voteMark = "v"

// IsVote says whether a group is a vote by its name.
func IsVote(group string) bool { return strings.HasPrefix(group, voteMark) }

// VoteGroup names the vote of a shard on a transaction.
func VoteGroup(tx, shard int) string {
	return voteMark + strconv.Itoa(tx) + "." + strconv.Itoa(shard)
}

// VoteOf tells of which transaction and shard a group is the vote, if there are these in the cluster.
func VoteOf(c api.Config, group string) (tx, shard int, is bool) {
	first, second, _ := strings.Cut(strings.TrimPrefix(group, voteMark), ".")
	tx, _ = strconv.Atoi(first)
	shard, _ = strconv.Atoi(second)
	is = IsTx(c, tx) && 0 <= shard && shard < c.Shards && VoteGroup(tx, shard) == group
	return tx, shard, is
}
