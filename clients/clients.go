// Package clients does the calls of clients, by packets to units.
package clients

import (
	"bytes"
	"maps"
	"slices"

	"furrow/api"
	"furrow/layouts"
)

// Client is one client. Of a call that has ended only its result is kept.
type Client struct {
	config  api.Config
	id      int
	layout  [][]int
	results []api.Result
	pending map[int]*call
	asked   int // how many questions there were: so each one has a number of its own
}

// New makes a client.
func New(c api.Config, id int) (*Client, api.Errno) {
	if !layouts.Valid(c) || id < api.FirstClient || id > api.LastClient {
		return nil, api.ErrArg
	}
	return &Client{config: c, id: id, layout: layouts.First(c), pending: make(map[int]*call)}, api.OK
}

// Append begins to append a value; it wants a token.
func (x *Client) Append(value []byte) (int, api.Errno) {
	if len(value) < 1 || len(value) > api.MaxValue {
		return 0, api.ErrArg
	}
	c, e := x.begin(appending)
	if e != api.OK {
		return 0, e
	}
	c.content.Kind, c.content.Value = api.Data, bytes.Clone(value)
	return c.number, api.OK
}

// Read begins to read an address.
func (x *Client) Read(address int) (int, api.Errno) {
	if _, _, e := layouts.Locate(x.config, address); e != api.OK {
		return 0, e
	}
	c, e := x.begin(reading)
	if e != api.OK {
		return 0, e
	}
	c.address = address
	x.look(c)
	return c.number, api.OK
}

// Fill begins to fill an address.
func (x *Client) Fill(address int) (int, api.Errno) {
	if _, _, e := layouts.Locate(x.config, address); e != api.OK {
		return 0, e
	}
	c, e := x.begin(filling)
	if e != api.OK {
		return 0, e
	}
	c.content.Kind = api.Junk
	c.address = address
	x.write(c)
	return c.number, api.OK
}

// Trim begins to trim all below an address.
func (x *Client) Trim(address int) (int, api.Errno) {
	if address < 0 || address > x.config.Chains*x.config.Cells {
		return 0, api.ErrAddress
	}
	c, e := x.begin(trimming)
	if e != api.OK {
		return 0, e
	}
	x.lay(c, address, api.Result{What: api.Done})
	return c.number, api.OK
}

// Change is refused: there is no layout but the first one yet.
func (x *Client) Change(unit int) (int, api.Errno) {
	if _, e := layouts.Chain(x.config, unit); e != api.OK {
		return 0, api.ErrUnit
	}
	c, e := x.begin(changing)
	if e != api.OK {
		return 0, e
	}
	x.end(c, api.Result{What: api.Refused})
	return c.number, api.OK
}

// Wants tells which appends want a token.
func (x *Client) Wants() []int {
	var wanting []int
	for n, c := range x.pending {
		if c.wants() {
			wanting = append(wanting, n)
		}
	}
	slices.Sort(wanting)
	return wanting
}

// Give lets an append try an address.
func (x *Client) Give(n int, token int) api.Errno {
	c, found := x.pending[n]
	if !found || !c.wants() {
		return api.ErrCall
	}
	if _, _, e := layouts.Locate(x.config, token); e != api.OK {
		x.end(c, api.Result{What: api.Full})
		return api.OK
	}
	c.address = token
	x.write(c)
	return api.OK
}

// Result tells how a call ended.
func (x *Client) Result(n int) (api.Result, api.Errno) {
	if n < 0 || n >= len(x.results) {
		return api.Result{}, api.ErrCall
	}
	r := x.results[n]
	r.Value = bytes.Clone(r.Value)
	return r, api.OK
}

// Tick has everything asked again that was not answered.
func (x *Client) Tick() {
	for _, c := range x.pending {
		c.question.due = true
	}
}

// Out gives the packets that are to go out. They can't be more than MaxOut: a
// call has one question, and asks it of each unit at most once.
func (x *Client) Out() []api.Packet {
	var given []api.Packet
	for _, n := range slices.Sorted(maps.Keys(x.pending)) {
		given = append(given, x.pending[n].question.out()...)
	}
	return given
}
