package clients

import (
	"slices"

	"furrow/api"
	"furrow/packets"
)

// question is what is asked of some nodes, and who has answered it, and what.
// One that is asked of none is no question.
type question[A any] struct {
	request packets.Request
	nodes   []int
	due     bool // it is to go out to those that have not answered
	answers map[int]A
}

func newQuestion[A any](nodes []int, q packets.Request) question[A] {
	return question[A]{request: q, nodes: nodes, due: true, answers: make(map[int]A)}
}

// asks tells whether something is asked at all.
func (q *question[A]) asks() bool {
	return len(q.nodes) > 0
}

// awaits tells whether an answer of this number, from this node, is wanted. Of
// several answers the first one counts: a promise that was given stays given,
// though it is not given again to a packet that was doubled.
func (q *question[A]) awaits(number, from int) bool {
	_, answered := q.answers[from]
	return q.request.Number == number && slices.Contains(q.nodes, from) && !answered
}

// count tells how many answers are such ones.
func (q *question[A]) count(such func(A) bool) int {
	n := 0
	for _, answer := range q.answers {
		if such(answer) {
			n++
		}
	}
	return n
}

// out gives the packets that are due.
func (q *question[A]) out() []api.Packet {
	if !q.due {
		return nil
	}
	q.due = false
	var given []api.Packet
	for _, node := range q.nodes {
		if _, answered := q.answers[node]; !answered {
			given = append(given, api.Packet{To: node, Data: q.request.Bytes()})
		}
	}
	return given
}
