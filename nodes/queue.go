package nodes

import (
	"slices"

	"furrow/api"
)

// queue is the answers that have not gone out yet. However often something was
// asked, and however late it came, there is at most one for each line of a client:
// else they might be so many that they go on going out when nobody asks any more.
type queue struct {
	answers map[asker]answer
	order   []asker // who has waited longest is first
}

// asker is a client, and on which of its lines it has asked.
type asker struct {
	client, line int
}

type answer struct {
	number int // of what was asked
	data   []byte
}

func newQueue() queue {
	return queue{answers: make(map[asker]answer)}
}

// add keeps the answer that the client may still await: the one to its latest
// question on the line. Of several to the same question that is the first one, as
// the client takes it: a promise, say, is not given again to a packet that was
// doubled. A later one gets the place of the earlier one, so that nobody waits
// longer for having asked again.
func (q *queue) add(to asker, a answer) {
	waiting, found := q.answers[to]
	if found && waiting.number >= a.number {
		return
	}
	if !found {
		q.order = append(q.order, to)
	}
	q.answers[to] = a
}

// take gives at most so many packets, which are in the queue no more.
func (q *queue) take(most int) []api.Packet {
	count := min(len(q.order), most)
	var given []api.Packet
	for _, to := range q.order[:count] {
		given = append(given, api.Packet{To: to.client, Data: q.answers[to].data})
		delete(q.answers, to)
	}
	q.order = slices.Delete(q.order, 0, count)
	return given
}
