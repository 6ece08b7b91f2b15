// Package clients does the calls of clients, by packets to units and voters.
package clients

import (
	"bytes"
	"maps"
	"slices"

	"furrow/api"
	"furrow/layouts"
)

// Client is one client. Of a call that has ended only its result is kept.
type Client struct {
	config  api.Config
	id      int
	epoch   int
	layout  [][]int // the one of the epoch
	results []api.Result
	pending map[int]*call
	asked   int                 // how many questions there were: so each one has a number of its own
	probe   question[api.Reply] // whether units are at a later epoch
	told    int                 // the latest epoch of which nodes have told since the last Tick
	ballot  int                 // the last one that was taken
	move    move
	waiting waiting
}

// New makes a client.
func New(c api.Config, id int) (*Client, api.Errno) {
	if !layouts.Valid(c) || id < api.FirstClient || id > api.LastClient {
		return nil, api.ErrArg
	}
	return &Client{config: c, id: id, layout: layouts.First(c), pending: make(map[int]*call)}, api.OK
}

// Append begins to append a value; it wants a token.
func (x *Client) Append(value []byte) (int, api.Errno) {
	if len(value) < 1 || len(value) > api.MaxValue {
		return 0, api.ErrArg
	}
	c, e := x.begin(appending)
	if e != api.OK {
		return 0, e
	}
	c.own.Kind, c.own.Value = api.Data, bytes.Clone(value)
	return c.number, api.OK
}

// Read begins to read an address.
func (x *Client) Read(address int) (int, api.Errno) {
	if _, _, e := layouts.Locate(x.config, address); e != api.OK {
		return 0, e
	}
	c, e := x.begin(reading)
	if e != api.OK {
		return 0, e
	}
	c.address = address
	x.do(c)
	return c.number, api.OK
}

// Fill begins to fill an address.
func (x *Client) Fill(address int) (int, api.Errno) {
	if _, _, e := layouts.Locate(x.config, address); e != api.OK {
		return 0, e
	}
	c, e := x.begin(filling)
	if e != api.OK {
		return 0, e
	}
	c.own.Kind = api.Junk
	c.address = address
	x.do(c)
	return c.number, api.OK
}

// Trim begins to trim all below an address.
func (x *Client) Trim(address int) (int, api.Errno) {
	if address < 0 || address > x.config.Chains*x.config.Cells {
		return 0, api.ErrAddress
	}
	c, e := x.begin(trimming)
	if e != api.OK {
		return 0, e
	}
	c.address = address
	x.do(c)
	return c.number, api.OK
}

// Change begins to leave out a unit.
func (x *Client) Change(unit int) (int, api.Errno) {
	if _, e := layouts.Chain(x.config, unit); e != api.OK {
		return 0, api.ErrUnit
	}
	others := x.hasChanges()
	c, e := x.begin(changing)
	if e != api.OK {
		return 0, e
	}
	c.unit = unit
	x.settle(c)
	if !others && x.hasChanges() {
		x.startMove()
	}
	return c.number, api.OK
}

// Wants tells which appends want a token.
func (x *Client) Wants() []int {
	var wanting []int
	for n, c := range x.pending {
		if c.wants() {
			wanting = append(wanting, n)
		}
	}
	slices.Sort(wanting)
	return wanting
}

// Give lets an append try an address.
func (x *Client) Give(n int, token int) api.Errno {
	c, found := x.pending[n]
	if !found || !c.wants() {
		return api.ErrCall
	}
	if _, _, e := layouts.Locate(x.config, token); e != api.OK {
		x.end(c, api.Result{What: api.Full})
		return api.OK
	}
	c.address = token
	x.do(c)
	return api.OK
}

// Result tells how a call ended.
func (x *Client) Result(n int) (api.Result, api.Errno) {
	if n < 0 || n >= len(x.results) {
		return api.Result{}, api.ErrCall
	}
	r := x.results[n]
	r.Value = bytes.Clone(r.Value)
	return r, api.OK
}

// Tick has everything asked again that was not answered.
func (x *Client) Tick() {
	x.waiting.longer = x.waiting.begun
	x.told, x.move = 0, move{}
	for _, c := range x.pending {
		c.question.due = true
	}
	if len(x.pending) > len(x.Wants()) {
		x.startProbe()
	}
	if x.hasChanges() {
		x.startMove()
	}
}

// Out gives the packets that are to go out. They can't be more than MaxOut: each
// call has one question, as have the probe and the move, and asks it of each node
// at most once.
func (x *Client) Out() []api.Packet {
	var given []api.Packet
	for _, c := range x.calls() {
		given = append(given, c.question.out()...)
	}
	given = append(given, x.probe.out()...)
	given = append(given, x.move.seals.out()...)
	return append(given, x.move.votes.out()...)
}

// calls gives the pending calls, rising.
func (x *Client) calls() []*call {
	var all []*call
	for _, n := range slices.Sorted(maps.Keys(x.pending)) {
		all = append(all, x.pending[n])
	}
	return all
}

func (x *Client) number() int {
	x.asked++
	return x.asked
}
