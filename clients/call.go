package clients

import (
	"slices"

	"furrow/api"
	"furrow/layouts"
	"furrow/packets"
)

// What a call is to do.
const (
	appending = 1 + iota
	reading
	filling
	trimming
	changing
)

// call is a call that is pending. It asks one question at a time; a change asks
// none, it is done by the client's move.
type call struct {
	kind, number int
	line         int // on which it asks
	address      int
	unit         int         // of a change
	own          api.Content // what the call itself would write
	content      api.Content // what is written along the chain
	place        int         // how many units of the chain have it
	ending       api.Result  // how the call ends when the mark is laid
	question     question[api.Reply]
}

func (c *call) wants() bool {
	return c.kind == appending && !c.question.asks()
}

// owns tells whether the content is the call's own one.
func (c *call) owns(content api.Content) bool {
	return content.Client == c.own.Client && content.Call == c.own.Call
}

func (x *Client) begin(kind int) (*call, api.Errno) {
	if len(x.pending) == api.MaxCalls {
		return nil, api.ErrCall
	}
	n := len(x.results)
	c := &call{kind: kind, number: n, line: x.freeLine(), own: api.Content{Client: x.id, Call: n}}
	x.results = append(x.results, api.Result{})
	x.pending[n] = c
	return c, api.OK
}

// freeLine gives a line that no pending call has.
func (x *Client) freeLine() int {
	var taken [api.MaxCalls]bool
	for _, c := range x.pending {
		taken[c.line] = true
	}
	return slices.Index(taken[:], false)
}

func (x *Client) end(c *call, r api.Result) {
	x.results[c.number] = r
	delete(x.pending, c.number)
}

// do does a call from its beginning, with the layout that is known. What it has
// found out with an earlier layout says nothing about this one: units that have
// told it may have been left out.
func (x *Client) do(c *call) {
	switch c.kind {
	case appending, filling:
		c.content, c.place = c.own, 0
		x.writeNext(c)
	case reading:
		x.look(c)
	case trimming:
		x.lay(c, c.address, api.Result{What: api.Done})
	}
}

// settle ends a change, if the layout that is known tells how.
func (x *Client) settle(c *call) {
	chain, _ := layouts.Chain(x.config, c.unit)
	switch units := x.layout[chain]; {
	case !slices.Contains(units, c.unit):
		x.end(c, api.Result{What: api.Done})
	case len(units) == 1:
		x.end(c, api.Result{What: api.Refused})
	}
}

func (x *Client) ask(c *call, units []int, q packets.Request) {
	q.Line, q.Number, q.Epoch = c.line, x.number(), x.epoch
	c.question = newQuestion[api.Reply](units, q)
}

// chain gives the units on which the call's address lies.
func (x *Client) chain(c *call) []int {
	chain, _, _ := layouts.Locate(x.config, c.address)
	return x.layout[chain]
}

// look asks all units of the chain. The last one could tell what they all have;
// but it may have been left out without knowing: of the others one knows.
func (x *Client) look(c *call) {
	x.ask(c, x.chain(c), packets.Request{Kind: packets.Read, Place: c.address})
}

// writeNext writes along the chain. The first unit decides what the address has;
// the others get that, one behind the other: what one has, all before it have.
func (x *Client) writeNext(c *call) {
	unit := x.chain(c)[c.place]
	x.ask(c, []int{unit}, packets.Request{Kind: packets.Write, Place: c.address, Content: c.content})
}

// lay lays a mark on all units: only when all have it, all below it is trimmed.
// Who has seen a mark on one unit has to lay it as well, or else might tell that
// an address is trimmed while the trim has not been done elsewhere.
func (x *Client) lay(c *call, mark int, ending api.Result) {
	c.ending = ending
	x.ask(c, layouts.All(x.layout), packets.Request{Kind: packets.Trim, Place: mark})
}
