// Package packets lays what clients ask of units and voters, and what these
// answer, as bytes.
package packets

import (
	"furrow/api"
	"furrow/record"
	"furrow/votes"
)

// The kinds of packets that clients send: what they ask units and voters to do.
const (
	Seal = 1 + iota
	Write
	Read
	Trim
	Prepare
	Accept
	Recall
)

// The kinds of packets that come back.
const (
	replyKind = 101 + iota
	voteKind
)

// The lines on which a client asks. On each one it awaits the answers to its latest
// question alone, so of all that it has ever asked no more is worth an answer than
// there are lines. The first ones are those of its calls.
const (
	ProbeLine = api.MaxCalls + iota
	MoveLine  // units and voters are asked different things on it, but nobody is both
	Lines
)

// How many numbers the packets have, each one's own number among them: every
// packet is so longer than the bytes that are handed in for no packet.
const (
	requestNumbers = 7
	replyNumbers   = 7
	voteNumbers    = 5
)

// Request is what a client asks.
type Request struct {
	Kind    int
	Line    int
	Number  int // grows from question to question; the answer has it too, so that the client knows what is answered
	Epoch   int
	Place   int         // the address or the mark; of voters the ballot
	Content api.Content // what is to be written; of what is voted for the Value alone
}

// Bytes gives the packet of a request.
func (q Request) Bytes() []byte {
	c := q.Content
	numbers := []int{q.Line, q.Number, q.Epoch, q.Place, c.Kind, c.Client, c.Call}
	return record.Record{Kind: q.Kind, Numbers: numbers, Value: c.Value}.Append(nil)
}

// ReadRequest reads a request. It is false, if the bytes are none.
func ReadRequest(data []byte) (Request, bool) {
	r, ok := whole(data, requestShapes())
	if !ok || !isLine(r.Numbers[0]) {
		return Request{}, false
	}
	n := r.Numbers
	content := api.Content{Kind: n[4], Client: n[5], Call: n[6], Value: r.Value}
	return Request{Kind: r.Kind, Line: n[0], Number: n[1], Epoch: n[2], Place: n[3], Content: content}, true
}

// ReplyBytes gives the packet of a unit's answer.
func ReplyBytes(number int, a api.Reply) []byte {
	c := a.Content
	numbers := []int{number, a.What, a.Epoch, a.Mark, c.Kind, c.Client, c.Call}
	return record.Record{Kind: replyKind, Numbers: numbers, Value: c.Value}.Append(nil)
}

// ReadReply reads the number of what was asked, and a unit's answer. It is
// false, if the bytes are none.
func ReadReply(data []byte) (int, api.Reply, bool) {
	r, ok := whole(data, []record.Shape{{Kind: replyKind, Numbers: replyNumbers, Value: api.MaxValue}})
	if !ok {
		return 0, api.Reply{}, false
	}
	n := r.Numbers
	content := api.Content{Kind: n[4], Client: n[5], Call: n[6], Value: r.Value}
	return n[0], api.Reply{What: n[1], Epoch: n[2], Mark: n[3], Content: content}, true
}

// VoteBytes gives the packet of a voter's answer. Whatever it was asked, it tells
// the latest epoch that it knows of, so that nobody has to go through all the epochs
// that others have gone through.
func VoteBytes(number, latest int, v api.Vote) []byte {
	numbers := []int{number, latest, v.What, v.Promise, v.Ballot}
	return record.Record{Kind: voteKind, Numbers: numbers, Value: v.Value}.Append(nil)
}

// ReadVote reads the number of what was asked, the latest epoch that the voter
// knows of, and its answer. It is false, if the bytes are none.
func ReadVote(data []byte) (int, int, api.Vote, bool) {
	r, ok := whole(data, []record.Shape{{Kind: voteKind, Numbers: voteNumbers, Value: votes.MaxValue}})
	if !ok {
		return 0, 0, api.Vote{}, false
	}
	n := r.Numbers
	return n[0], n[1], api.Vote{What: n[2], Promise: n[3], Ballot: n[4], Value: r.Value}, true
}

func isLine(n int) bool {
	return n >= 0 && n < Lines
}

func requestShapes() []record.Shape {
	return []record.Shape{
		{Kind: Seal, Numbers: requestNumbers},
		{Kind: Write, Numbers: requestNumbers, Value: api.MaxValue},
		{Kind: Read, Numbers: requestNumbers},
		{Kind: Trim, Numbers: requestNumbers},
		{Kind: Prepare, Numbers: requestNumbers},
		{Kind: Accept, Numbers: requestNumbers, Value: votes.MaxValue},
		{Kind: Recall, Numbers: requestNumbers},
	}
}

// whole reads one record. What is behind it, even the beginning of another one,
// makes it no packet.
func whole(data []byte, shapes []record.Shape) (record.Record, bool) {
	records, ok := record.Split(data, shapes)
	if !ok || len(records) != 1 || len(records[0].Append(nil)) != len(data) {
		return record.Record{}, false
	}
	return records[0], true
}
