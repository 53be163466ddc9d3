// Package server: the nodes that keep a shard's log. So far they are only there.
package server

import (
	"pact/api"
	"pact/record"
)

// maxRound is the greatest round of which every node's ballot is one.
const maxRound = api.MaxBallot / 64

// Server is a server.
type Server struct {
	round int // of its last ballot; stored, so that it makes none twice
}

// New makes a server that has made no ballot.
func New() *Server { return &Server{} }

// Take deals with a message.
func (s *Server) Take(m api.Message, send func(api.Message)) {}

// Tick: the clock goes on.
func (s *Server) Tick(send func(api.Message)) {}

// State tells all that the server knows.
func (s *Server) State() string { return s.Stored() }

// Stored tells the round of the last ballot.
func (s *Server) Stored() string {
	var w record.Writer
	w.Number(s.round)
	return w.String()
}

// Load stores what Stored has told. If it is none of that, it panics with a record.Fault.
func (s *Server) Load(text string) {
	s.round = record.Read(text).Number(maxRound)
}
