package clients

import (
	"furrow/api"
	"furrow/packets"
)

// Receive takes a packet.
func (x *Client) Receive(from int, data []byte) {
	if number, reply, ok := packets.ReadReply(data); ok {
		x.replied(from, number, reply)
	}
	if number, latest, vote, ok := packets.ReadVote(data); ok {
		x.voted(from, number, latest, vote)
	}
}

// replied takes the answer of a unit. One that is sealed has not answered what
// was asked: that is asked anew when the later layout is known.
func (x *Client) replied(from, number int, reply api.Reply) {
	q, goOn := x.asker(from, number)
	switch {
	case q == nil:
		return
	case reply.What == api.Sealed:
		x.behind(reply.Epoch)
	default:
		q.answers[from] = reply
		goOn(reply)
	}
}

// asker gives the question that this is an answer to, and what comes behind it.
func (x *Client) asker(from, number int) (*question[api.Reply], func(api.Reply)) {
	if x.probe.awaits(number, from) {
		return &x.probe, func(api.Reply) {}
	}
	if x.move.seals.awaits(number, from) {
		return &x.move.seals, x.sealed
	}
	for _, c := range x.pending {
		if c.question.awaits(number, from) {
			return &c.question, func(reply api.Reply) { x.goOn(c, reply) }
		}
	}
	return nil, nil
}

// goOn does what comes behind an answer to a call.
func (x *Client) goOn(c *call, reply api.Reply) {
	switch c.question.request.Kind {
	case packets.Read:
		x.looked(c, reply)
	case packets.Write:
		x.wrote(c, reply)
	case packets.Trim:
		if c.question.count(isDone) == len(c.question.nodes) {
			x.end(c, c.ending)
		}
	}
}

// looked: an address has the content that all units have. If one has none, it had
// none when the read began.
func (x *Client) looked(c *call, reply api.Reply) {
	q := &c.question
	switch {
	case reply.What == api.Trimmed:
		x.lay(c, reply.Mark, api.Result{What: api.Trimmed})
	case len(q.answers) < len(q.nodes):
		return
	case q.count(isTaken) == len(q.nodes):
		x.end(c, told(q.answers[q.nodes[0]].Content))
	default:
		x.end(c, api.Result{What: api.Empty})
	}
}

func (x *Client) wrote(c *call, reply api.Reply) {
	switch reply.What {
	case api.Done:
		x.goAlong(c)
	case api.Taken:
		x.taken(c, reply.Content)
	case api.Trimmed:
		x.trimmed(c, reply)
	}
}

// taken: an append goes elsewhere, if the content isn't its own; a fill sees to
// it that all units have what is there.
func (x *Client) taken(c *call, content api.Content) {
	if c.kind == appending && !c.owns(content) {
		c.question = question[api.Reply]{}
		return
	}
	c.content = content
	x.goAlong(c)
}

func (x *Client) goAlong(c *call) {
	c.place++
	switch {
	case c.place < len(x.chain(c)):
		x.writeNext(c)
	case c.kind == appending:
		x.end(c, api.Result{What: api.Done, Address: c.address})
	default:
		x.end(c, told(c.content))
	}
}

// trimmed: if a unit has the call's own content, others may have been told of
// it before it was trimmed. Then the call was done, and must not be done anew.
func (x *Client) trimmed(c *call, reply api.Reply) {
	own := c.owns(reply.Content) || c.place > 0 && c.owns(c.content)
	switch {
	case c.kind == appending && !own:
		c.question = question[api.Reply]{}
	case c.kind == appending:
		x.lay(c, reply.Mark, api.Result{What: api.Done, Address: c.address})
	case own:
		x.lay(c, reply.Mark, api.Result{What: api.Junk})
	default:
		x.lay(c, reply.Mark, api.Result{What: api.Trimmed})
	}
}

// told is what a read or a fill tells of a content.
func told(content api.Content) api.Result {
	return api.Result{What: content.Kind, Value: content.Value}
}

func isDone(r api.Reply) bool {
	return r.What == api.Done
}

func isTaken(r api.Reply) bool {
	return r.What == api.Taken
}
