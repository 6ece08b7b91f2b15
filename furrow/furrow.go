// Package furrow: one log that many write, on units that are written once: see DOC.md.
package furrow

import (
	"furrow/api"
	"furrow/cells"
	"furrow/clients"
	"furrow/layouts"
	"furrow/nodes"
	"furrow/votes"
)

// Cells are what a unit keeps.
type Cells struct{ kept cells.Cells }

// Voter is what a voter keeps.
type Voter struct{ kept votes.Voter }

// Node is a unit or a voter.
type Node struct{ kept nodes.Node }

// Client is a client.
type Client struct{ kept clients.Client }

// Locate tells where an address lies (P3).
func Locate(c api.Config, address int) (int, int, api.Errno) { return layouts.Locate(c, address) }

// Next gives the layout behind another one (P3).
func Next(layout [][]int, out int, sealed []int) ([][]int, api.Errno) {
	return layouts.Next(layout, out, sealed)
}

// OpenCells opens cells (P4).
func OpenCells(c api.Config, unit int, image []byte) (*Cells, api.Errno) {
	kept, e := cells.Open(c, unit, image)
	if e != api.OK {
		return nil, e
	}
	return &Cells{*kept}, api.OK
}

// Seal seals them (P5).
func (k *Cells) Seal(epoch int) api.Reply { return k.kept.Seal(epoch) }

// Write writes a cell (P5).
func (k *Cells) Write(epoch int, address int, c api.Content) api.Reply {
	return k.kept.Write(epoch, address, c)
}

// Read reads a cell (P5).
func (k *Cells) Read(epoch int, address int) api.Reply { return k.kept.Read(epoch, address) }

// Trim lays a mark (P5).
func (k *Cells) Trim(epoch int, mark int) api.Reply { return k.kept.Trim(epoch, mark) }

// Image gives all as bytes (P6).
func (k *Cells) Image() []byte { return k.kept.Image() }

// OpenVoter opens a voter (P7).
func OpenVoter(image []byte) (*Voter, api.Errno) {
	kept, e := votes.Open(image)
	if e != api.OK {
		return nil, e
	}
	return &Voter{*kept}, api.OK
}

// Prepare asks for a promise (P7).
func (v *Voter) Prepare(epoch int, ballot int) api.Vote { return v.kept.Prepare(epoch, ballot) }

// Accept asks for a vote (P7).
func (v *Voter) Accept(epoch int, ballot int, value []byte) api.Vote {
	return v.kept.Accept(epoch, ballot, value)
}

// Image gives all as bytes (P7).
func (v *Voter) Image() []byte { return v.kept.Image() }

// OpenNode opens a unit or voter (P8).
func OpenNode(c api.Config, id int, image []byte) (*Node, api.Errno) {
	kept, e := nodes.Open(c, id, image)
	if e != api.OK {
		return nil, e
	}
	return &Node{*kept}, api.OK
}

// Receive takes a packet (P8).
func (n *Node) Receive(from int, data []byte) { n.kept.Receive(from, data) }

// Out gives packets (P8).
func (n *Node) Out() []api.Packet { return n.kept.Out() }

// Image gives all as bytes (P8).
func (n *Node) Image() []byte { return n.kept.Image() }

// NewClient makes a client (P9).
func NewClient(c api.Config, id int) (*Client, api.Errno) {
	kept, e := clients.New(c, id)
	if e != api.OK {
		return nil, e
	}
	return &Client{*kept}, api.OK
}

// Append appends a value (P9).
func (x *Client) Append(value []byte) (int, api.Errno) { return x.kept.Append(value) }

// Read reads an address (P9).
func (x *Client) Read(address int) (int, api.Errno) { return x.kept.Read(address) }

// Fill fills an address (P9).
func (x *Client) Fill(address int) (int, api.Errno) { return x.kept.Fill(address) }

// Trim trims all below an address (P9).
func (x *Client) Trim(address int) (int, api.Errno) { return x.kept.Trim(address) }

// Change leaves out a unit (P9).
func (x *Client) Change(unit int) (int, api.Errno) { return x.kept.Change(unit) }

// Wants tells which calls want a token (P10).
func (x *Client) Wants() []int { return x.kept.Wants() }

// Give gives a token (P10).
func (x *Client) Give(call int, token int) api.Errno { return x.kept.Give(call, token) }

// Result tells how a call ended (P9).
func (x *Client) Result(call int) (api.Result, api.Errno) { return x.kept.Result(call) }

// Receive takes a packet (P11).
func (x *Client) Receive(from int, data []byte) { x.kept.Receive(from, data) }

// Out gives packets (P11).
func (x *Client) Out() []api.Packet { return x.kept.Out() }

// Tick lets time go by (P11).
func (x *Client) Tick() { x.kept.Tick() }
