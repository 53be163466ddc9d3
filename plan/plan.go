// Package plan: which clusters there can be, and which of their nodes is what: first the acceptors, then the servers, then the clients.
package plan

import "pact/api"

// Fits says whether there can be such a cluster.
func Fits(c api.Config) bool {
	return 0 <= c.F && c.F <= api.MaxFaults &&
		1 <= c.Shards && c.Shards <= api.MaxShards &&
		1 <= c.Clients && c.Clients <= api.MaxClients
}

// FirstServer tells the number of the first server: so many acceptors there are.
func FirstServer(c api.Config) int { return 2*c.F + 1 }

// FirstClient tells the number of the first client.
func FirstClient(c api.Config) int { return FirstServer(c) + api.Servers*c.Shards }

// Nodes tells how many nodes there are.
func Nodes(c api.Config) int { return FirstClient(c) + c.Clients }
