package plan

import (
	"testing"

	"pact/api"
)

func TestFits(t *testing.T) {
	for f := -2; f < 4; f++ {
		for shards := -2; shards < 6; shards++ {
			for clients := -2; clients < 6; clients++ {
				want := (f == 0 || f == 1) && (shards == 1 || shards == 2 || shards == 3) && (clients == 1 || clients == 2 || clients == 3)
				if got := Fits(api.Config{F: f, Shards: shards, Clients: clients}); got != want {
					t.Errorf("P10: F %d, %d shards, %d clients: %v", f, shards, clients, got)
				}
			}
		}
	}
}

func TestNumbers(t *testing.T) {
	for _, c := range []struct {
		config                 api.Config
		servers, clients, many int
	}{
		{api.Config{F: 0, Shards: 1, Clients: 1}, 1, 3, 4},
		{api.Config{F: 1, Shards: 2, Clients: 2}, 3, 7, 9},
		{api.Config{F: 1, Shards: 3, Clients: 3}, 3, 9, 12},
	} {
		s, k, n := FirstServer(c.config), FirstClient(c.config), Nodes(c.config)
		if s != c.servers || k != c.clients || n != c.many {
			t.Errorf("P10: %+v: servers from %d, clients from %d, %d nodes", c.config, s, k, n)
		}
	}
}

func TestPlaces(t *testing.T) {
	c := api.Config{F: 1, Shards: 2, Clients: 2}
	for node, want := range []string{"a", "a", "a", "s", "s", "s", "s", "", ""} {
		if IsAcceptor(c, node) != (want == "a") || IsServer(c, node) != (want == "s") {
			t.Errorf("P10: node %d: acceptor %v, server %v", node, IsAcceptor(c, node), IsServer(c, node))
		}
	}
	if IsAcceptor(c, -1) || IsServer(c, -1) || Majority(c) != 2 || Majority(api.Config{F: 0}) != 1 {
		t.Error("P10: node -1 is something, or a majority is none")
	}
	for key, want := range []int{0, 1, 0, 1, 0, 1} {
		if got := ShardOf(c, key); got != want || ServersOf(c, got) != 3+2*want || LogGroup(got) != []string{"s0", "s1"}[want] {
			t.Errorf("key %d lies in shard %d, with the servers from %d on", key, got, ServersOf(c, got))
		}
	}
}

func TestTransactions(t *testing.T) {
	c := api.Config{F: 1, Shards: 2, Clients: 2}
	for tx := -10; tx < 300; tx++ {
		want := tx >= 4 && tx < 204 && tx%4 < 2
		if IsTx(c, tx) != want || want && (Tx(tx%4, tx/4) != tx || ClientOf(c, tx) != 7+tx%4) {
			t.Errorf("transaction %d: %v, want %v", tx, IsTx(c, tx), want)
		}
	}
}

func TestVotes(t *testing.T) {
	c := api.Config{F: 1, Shards: 2, Clients: 2}
	for _, tx := range []int{4, 5, 8, 200, 201} {
		for shard := range 2 {
			group := VoteGroup(tx, shard)
			if a, b, is := VoteOf(c, group); a != tx || b != shard || !is || !IsVote(group) {
				t.Errorf("%s is the vote of shard %d on %d, %v", group, b, a, is)
			}
		}
	}
	if VoteGroup(5, 0) != "v5.0" {
		t.Errorf("the vote of shard 0 on 5 is named %s", VoteGroup(5, 0))
	}
	for _, group := range []string{"", "v", "s0", "v4", "v4.", "v4.2", "v4.-1", "v04.0", "v4.00", "v+4.0", "v3.0", "v6.0", "v204.0", "v4.0.0", "v4.0 ", "vv4.0", "4.0", "v99999999999999999999.0", "v4.99999999999999999999"} {
		if tx, shard, is := VoteOf(c, group); is {
			t.Errorf("%q is the vote of shard %d on %d", group, shard, tx)
		}
	}
	if IsVote("s0") || IsVote("") || !IsVote("v") {
		t.Error("P17: what begins with v is a vote")
	}
}
