// Package nodes lets units and voters be asked by packets.
package nodes

import (
	"furrow/api"
	"furrow/layouts"
	"furrow/packets"
)

// Node is a unit or a voter. The answers that have not gone out yet are not in
// its image: to whoever asked, they are lost packets.
type Node struct {
	part part
	out  queue
}

// part is what a node is: a unit or a voter.
type part interface {
	// answer does what is asked; it is false, if the part can't be asked that.
	answer(q packets.Request) ([]byte, bool)
	Image() []byte
}

// Open opens the unit or voter of this number.
func Open(c api.Config, id int, image []byte) (*Node, api.Errno) {
	if !layouts.Valid(c) {
		return nil, api.ErrArg
	}
	open := openUnit
	if isVoter(c, id) {
		open = openVoter
	}
	p, e := open(c, id, image)
	if e != api.OK {
		return nil, e
	}
	return &Node{part: p, out: newQueue()}, api.OK
}

// Receive takes a packet. Only clients ask; an answer has nowhere else to go.
func (n *Node) Receive(from int, data []byte) {
	q, ok := packets.ReadRequest(data)
	if !ok || from < api.FirstClient || from > api.LastClient {
		return
	}
	if data, ok := n.part.answer(q); ok {
		n.out.add(asker{from, q.Line}, answer{q.Number, data})
	}
}

// Out gives the packets that are to go out.
func (n *Node) Out() []api.Packet {
	return n.out.take(api.MaxOut)
}

// Image gives all that was kept, as bytes.
func (n *Node) Image() []byte {
	return n.part.Image()
}

func isVoter(c api.Config, id int) bool {
	return id >= api.FirstVoter && id < api.FirstVoter+c.Voters
}
