package clients

import (
	"furrow/api"
	"furrow/layouts"
	"furrow/packets"
)

// What a call is to do.
const (
	appending = 1 + iota
	reading
	filling
	trimming
	changing
)

// epoch is the one of the first layout.
const epoch = 0

// call is a call that is pending. It asks one question at a time.
type call struct {
	kind, number int
	address      int
	content      api.Content // what is written along the chain
	place        int         // how many units of the chain have it
	ending       api.Result  // how the call ends when the mark is laid
	question     question
}

func (c *call) wants() bool {
	return c.kind == appending && len(c.question.units) == 0
}

// owns tells whether the content is the call's own one.
func (x *Client) owns(c *call, content api.Content) bool {
	return content.Client == x.id && content.Call == c.number
}

func (x *Client) begin(kind int) (*call, api.Errno) {
	if len(x.pending) == api.MaxCalls {
		return nil, api.ErrCall
	}
	n := len(x.results)
	c := &call{kind: kind, number: n, content: api.Content{Client: x.id, Call: n}}
	x.results = append(x.results, api.Result{})
	x.pending[n] = c
	return c, api.OK
}

func (x *Client) end(c *call, r api.Result) {
	x.results[c.number] = r
	delete(x.pending, c.number)
}

func (x *Client) ask(c *call, units []int, q packets.Request) {
	x.asked++
	q.Number, q.Epoch = x.asked, epoch
	c.question = question{request: q, units: units, due: true, answers: make(map[int]api.Reply)}
}

// chain gives the units on which the call's address lies.
func (x *Client) chain(c *call) []int {
	chain, _, _ := layouts.Locate(x.config, c.address)
	return x.layout[chain]
}

// look asks the last unit of the chain: what that has, all have.
func (x *Client) look(c *call) {
	chain := x.chain(c)
	last := chain[len(chain)-1]
	x.ask(c, []int{last}, packets.Request{Kind: packets.Read, Place: c.address})
}

// write begins to write along the chain. The first unit decides what the
// address has; the others get that, one behind the other.
func (x *Client) write(c *call) {
	c.place = 0
	x.writeNext(c)
}

func (x *Client) writeNext(c *call) {
	unit := x.chain(c)[c.place]
	x.ask(c, []int{unit}, packets.Request{Kind: packets.Write, Place: c.address, Content: c.content})
}

// lay lays a mark on all units: only when all have it, all below it is trimmed.
// Who has seen a mark on one unit has to lay it as well, or else might tell that
// an address is trimmed while the trim has not been done elsewhere.
func (x *Client) lay(c *call, mark int, ending api.Result) {
	c.ending = ending
	var all []int
	for _, chain := range x.layout {
		all = append(all, chain...)
	}
	x.ask(c, all, packets.Request{Kind: packets.Trim, Place: mark})
}
