// Package cells keeps what a unit keeps: cells that are written once, an epoch
// and a mark, and the image from which all that is opened again.
package cells

import (
	"bytes"

	"furrow/api"
	"furrow/layouts"
	"furrow/record"
)

// The kinds of records in an image.
const (
	sealRecord  = 1 // epoch
	trimRecord  = 2 // epoch, mark
	writeRecord = 3 // epoch, address, kind, client, call; the value
)

func shapes() []record.Shape {
	return []record.Shape{
		{Kind: sealRecord, Numbers: 1},
		{Kind: trimRecord, Numbers: 2},
		{Kind: writeRecord, Numbers: 5, Value: api.MaxValue},
	}
}

// Cells are the cells of one unit. A content of the kind 0 is none.
type Cells struct {
	config      api.Config
	chain       int
	epoch, mark int
	contents    [api.MaxCells]api.Content
	image       record.Image
}

// Open opens cells from an image, or from the beginning of one.
func Open(c api.Config, unit int, image []byte) (*Cells, api.Errno) {
	chain, e := layouts.Chain(c, unit)
	if e != api.OK {
		return nil, e
	}
	k := &Cells{config: c, chain: chain}
	if !k.image.Open(image, shapes(), k.again) {
		return nil, api.ErrImage
	}
	return k, api.OK
}

// again does the call that a record tells of.
func (k *Cells) again(r record.Record) {
	n := r.Numbers
	switch r.Kind {
	case sealRecord:
		k.Seal(n[0])
	case trimRecord:
		k.Trim(n[0], n[1])
	case writeRecord:
		k.Write(n[0], n[1], api.Content{Kind: n[2], Client: n[3], Call: n[4], Value: r.Value})
	}
}

// Seal lets in no call of an epoch below this one any more.
func (k *Cells) Seal(epoch int) api.Reply {
	if epoch < k.epoch {
		return k.sealed()
	}
	k.reach(epoch)
	return api.Reply{What: api.Done, Epoch: k.epoch}
}

// Write gives a cell its content, if it has none.
func (k *Cells) Write(epoch int, address int, c api.Content) api.Reply {
	if epoch < k.epoch {
		return k.sealed()
	}
	reply := k.look(address)
	if !isContent(c) {
		reply = api.Reply{What: api.Refused}
	}
	if reply.What != api.Empty {
		k.reach(epoch)
		return reply
	}
	k.put(epoch, address, c)
	return api.Reply{What: api.Done}
}

// Read tells what is in a cell.
func (k *Cells) Read(epoch int, address int) api.Reply {
	if epoch < k.epoch {
		return k.sealed()
	}
	k.reach(epoch)
	return k.look(address)
}

// Trim lays the mark, if it is above the one that is there.
func (k *Cells) Trim(epoch int, mark int) api.Reply {
	if epoch < k.epoch {
		return k.sealed()
	}
	if mark > k.mark {
		k.lay(epoch, mark)
	} else {
		k.reach(epoch)
	}
	return api.Reply{What: api.Done, Mark: k.mark}
}

// Image gives all that was kept, as bytes.
func (k *Cells) Image() []byte {
	return k.image.Bytes()
}

func (k *Cells) sealed() api.Reply {
	return api.Reply{What: api.Sealed, Epoch: k.epoch}
}

// look tells what there is to be told of an address, and changes nothing.
func (k *Cells) look(address int) api.Reply {
	chain, cell, e := layouts.Locate(k.config, address)
	if e != api.OK || chain != k.chain {
		return api.Reply{What: api.Refused}
	}
	content := k.contents[cell]
	switch {
	case address < k.mark:
		content.Value = nil
		return api.Reply{What: api.Trimmed, Mark: k.mark, Content: content}
	case content.Kind == 0:
		return api.Reply{What: api.Empty}
	}
	return api.Reply{What: api.Taken, Content: copied(content)}
}

// A call leaves at most one record: the three below are the only ones that
// change cells, and a call takes one of them.

func (k *Cells) reach(epoch int) {
	if epoch == k.epoch {
		return
	}
	k.epoch = epoch
	k.image.Keep(record.Record{Kind: sealRecord, Numbers: []int{epoch}})
}

func (k *Cells) lay(epoch, mark int) {
	k.epoch, k.mark = epoch, mark
	k.image.Keep(record.Record{Kind: trimRecord, Numbers: []int{epoch, mark}})
}

func (k *Cells) put(epoch, address int, c api.Content) {
	_, cell, _ := layouts.Locate(k.config, address)
	k.epoch = epoch
	k.contents[cell] = copied(c)
	numbers := []int{epoch, address, c.Kind, c.Client, c.Call}
	k.image.Keep(record.Record{Kind: writeRecord, Numbers: numbers, Value: c.Value})
}

func isContent(c api.Content) bool {
	switch c.Kind {
	case api.Data:
		return len(c.Value) >= 1 && len(c.Value) <= api.MaxValue
	case api.Junk:
		return len(c.Value) == 0
	}
	return false
}

func copied(c api.Content) api.Content {
	c.Value = bytes.Clone(c.Value)
	return c
}
