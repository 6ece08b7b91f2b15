package clients

import (
	"slices"

	"furrow/api"
	"furrow/packets"
)

// question is what is asked of some units, and who has answered it. One that
// is asked of none is no question.
type question struct {
	request packets.Request
	units   []int
	due     bool // it is to go out to those that have not answered
	answers map[int]api.Reply
}

// take keeps an answer. It is false, if this unit was not asked.
func (q *question) take(from int, reply api.Reply) bool {
	if !slices.Contains(q.units, from) {
		return false
	}
	q.answers[from] = reply
	return true
}

func (q *question) answered(unit int) bool {
	_, found := q.answers[unit]
	return found
}

// allDid tells whether every unit has done what was asked.
func (q *question) allDid() bool {
	did := 0
	for _, reply := range q.answers {
		if reply.What == api.Done {
			did++
		}
	}
	return did == len(q.units)
}

// out gives the packets that are due.
func (q *question) out() []api.Packet {
	if !q.due {
		return nil
	}
	q.due = false
	var given []api.Packet
	for _, unit := range q.units {
		if !q.answered(unit) {
			given = append(given, api.Packet{To: unit, Data: q.request.Bytes()})
		}
	}
	return given
}
