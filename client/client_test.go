package client

import "testing"

func caught(text string) (r any) {
	defer func() { r = recover() }()
	New().Load(text)
	return nil
}

func TestStored(t *testing.T) {
	for _, text := range []string{"0 0", "1 0", "0 1", "50 65535"} {
		c := New()
		if c.Load(text); c.Stored() != text || c.State() == New().State() != (text == "0 0") {
			t.Errorf("P24: %q is loaded as %q, with the state %q", text, c.Stored(), c.State())
		}
	}
	if got := New().Stored(); got != "0 0" {
		t.Errorf("P24: a new client has stored %q", got)
	}
	for _, text := range []string{"", "0", "51 0", "0 65536", "-1 0", "0 x"} {
		if caught(text) == nil {
			t.Errorf("P24: %q is loaded", text)
		}
	}
}
