package server

import "testing"

func caught(text string) (r any) {
	defer func() { r = recover() }()
	New().Load(text)
	return nil
}

func TestStored(t *testing.T) {
	for _, text := range []string{"0", "1", "262143"} {
		s := New()
		if s.Load(text); s.Stored() != text || s.State() == New().State() != (text == "0") {
			t.Errorf("P24: %q is loaded as %q, with the state %q", text, s.Stored(), s.State())
		}
	}
	if got := New().Stored(); got != "0" {
		t.Errorf("P24: a new server has stored %q", got)
	}
	for _, text := range []string{"", "-1", "262144", "x"} {
		if caught(text) == nil {
			t.Errorf("P24: %q is loaded", text)
		}
	}
}
