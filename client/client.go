// Package client: the nodes that run transactions. So far they are only there.
package client

import (
	"pact/api"
	"pact/record"
)

// Client is a client.
type Client struct {
	begun int // transactions; stored
	asked int // requests; stored
}

// New makes a client that has begun and asked nothing.
func New() *Client { return &Client{} }

// Take deals with a message.
func (c *Client) Take(m api.Message, send func(api.Message)) {}

// Tick: the clock goes on.
func (c *Client) Tick(send func(api.Message)) {}

// State tells all that the client knows.
func (c *Client) State() string { return c.Stored() }

// Stored tells how many transactions it has begun, and how many requests it has made.
func (c *Client) Stored() string {
	var w record.Writer
	w.Number(c.begun)
	w.Number(c.asked)
	return w.String()
}

// Load stores what Stored has told. If it is none of that, it panics with a record.Fault.
func (c *Client) Load(text string) {
	r := record.Read(text)
	c.begun = r.Number(api.MaxTx)
	c.asked = r.Number(api.MaxSeq)
}
