package plan

import (
	"testing"

	"pact/api"
)

func TestFits(t *testing.T) {
	for f := -2; f < 4; f++ {
		for shards := -2; shards < 6; shards++ {
			for clients := -2; clients < 6; clients++ {
				want := (f == 0 || f == 1) && (shards == 1 || shards == 2 || shards == 3) && (clients == 1 || clients == 2 || clients == 3)
				if got := Fits(api.Config{F: f, Shards: shards, Clients: clients}); got != want {
					t.Errorf("P10: F %d, %d shards, %d clients: %v", f, shards, clients, got)
				}
			}
		}
	}
}

func TestNumbers(t *testing.T) {
	for _, c := range []struct {
		config                 api.Config
		servers, clients, many int
	}{
		{api.Config{F: 0, Shards: 1, Clients: 1}, 1, 3, 4},
		{api.Config{F: 1, Shards: 2, Clients: 2}, 3, 7, 9},
		{api.Config{F: 1, Shards: 3, Clients: 3}, 3, 9, 12},
	} {
		s, k, n := FirstServer(c.config), FirstClient(c.config), Nodes(c.config)
		if s != c.servers || k != c.clients || n != c.many {
			t.Errorf("P10: %+v: servers from %d, clients from %d, %d nodes", c.config, s, k, n)
		}
	}
}
