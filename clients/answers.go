package clients

import (
	"furrow/api"
	"furrow/packets"
)

// Receive takes a packet.
func (x *Client) Receive(from int, data []byte) {
	number, reply, ok := packets.ReadReply(data)
	if !ok {
		return
	}
	if c, found := x.asker(number); found && c.question.take(from, reply) {
		x.goOn(c, reply)
	}
}

// asker gives the call that has asked the question of this number.
func (x *Client) asker(number int) (*call, bool) {
	for _, c := range x.pending {
		if c.question.request.Number == number {
			return c, true
		}
	}
	return nil, false
}

// goOn does what comes behind an answer.
func (x *Client) goOn(c *call, reply api.Reply) {
	switch c.question.request.Kind {
	case packets.Read:
		x.looked(c, reply)
	case packets.Write:
		x.wrote(c, reply)
	case packets.Trim:
		if c.question.allDid() {
			x.end(c, c.ending)
		}
	}
}

func (x *Client) looked(c *call, reply api.Reply) {
	switch reply.What {
	case api.Empty:
		x.end(c, api.Result{What: api.Empty})
	case api.Taken:
		x.end(c, told(reply.Content))
	case api.Trimmed:
		x.lay(c, reply.Mark, api.Result{What: api.Trimmed})
	}
}

func (x *Client) wrote(c *call, reply api.Reply) {
	switch reply.What {
	case api.Done:
		x.goAlong(c)
	case api.Taken:
		x.taken(c, reply.Content)
	case api.Trimmed:
		x.trimmed(c, reply)
	}
}

// taken: an append goes elsewhere, if the content isn't its own; a fill sees to
// it that all units have what is there.
func (x *Client) taken(c *call, content api.Content) {
	if c.kind == appending && !x.owns(c, content) {
		c.question = question{}
		return
	}
	c.content = content
	x.goAlong(c)
}

func (x *Client) goAlong(c *call) {
	c.place++
	switch {
	case c.place < len(x.chain(c)):
		x.writeNext(c)
	case c.kind == appending:
		x.end(c, api.Result{What: api.Done, Address: c.address})
	default:
		x.end(c, told(c.content))
	}
}

// trimmed: if a unit has the call's own content, others may have been told of
// it before it was trimmed. Then the call was done, and must not be done anew.
func (x *Client) trimmed(c *call, reply api.Reply) {
	own := x.owns(c, reply.Content) || c.place > 0 && x.owns(c, c.content)
	switch {
	case c.kind == appending && !own:
		c.question = question{}
	case c.kind == appending:
		x.lay(c, reply.Mark, api.Result{What: api.Done, Address: c.address})
	case own:
		x.lay(c, reply.Mark, api.Result{What: api.Junk})
	default:
		x.lay(c, reply.Mark, api.Result{What: api.Trimmed})
	}
}

// told is what a read or a fill tells of a content.
func told(content api.Content) api.Result {
	return api.Result{What: content.Kind, Value: content.Value}
}
