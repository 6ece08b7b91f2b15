package clients

import (
	"furrow/api"
	"furrow/layouts"
	"furrow/packets"
)

// move is the way to a later layout. It has voters tell what they have voted for;
// if nothing is known to be chosen, it has units sealed, and voters promise, and
// vote.
type move struct {
	epoch  int              // the one whose layout is looked for
	chosen bool             // there is one: a node is at an epoch that comes behind it
	begun  map[int]api.Vote // what voters have told before they were to promise
	ballot int
	value  []byte // the layout to vote for
	seals  question[api.Reply]
	votes  question[api.Vote]
}

// waiting is why the next move may go further than the last one.
type waiting struct {
	begun  bool // a new layout was begun, and not chosen yet
	longer bool // that was so ahead of the last Tick already
}

// behind: a node is at a later epoch. Of that one there need not be a layout,
// but of the one ahead of it there is: who has units sealed and voters promise for
// an epoch has the layout ahead of it.
func (x *Client) behind(epoch int) {
	if epoch <= x.epoch || epoch <= x.told {
		return
	}
	x.told = epoch
	if epoch > x.move.epoch {
		x.startMove()
	}
}

// startProbe asks all units whether they are at a later epoch. Those that a call
// waits for may have been left out, and be gone.
func (x *Client) startProbe() {
	q := packets.Request{Kind: packets.Seal, Line: packets.ProbeLine, Number: x.number(), Epoch: x.epoch}
	x.probe = newQuestion[api.Reply](layouts.All(x.layout), q)
}

// startMove asks what was voted for. Most of the time others are done with it:
// then this is enough, and hinders nobody.
func (x *Client) startMove() {
	epoch := max(x.epoch+1, x.told-1)
	x.move = move{epoch: epoch, chosen: epoch < x.told}
	x.askVoters(packets.Request{Kind: packets.Recall})
}

func (x *Client) askVoters(q packets.Request) {
	q.Line, q.Number, q.Epoch = packets.MoveLine, x.number(), x.move.epoch
	var voters []int
	for i := range x.config.Voters {
		voters = append(voters, api.FirstVoter+i)
	}
	x.move.votes = newQuestion[api.Vote](voters, q)
}

// voted takes the answer of a voter. If that knows of a later epoch, the move may
// begin anew, and then the answer is awaited no more.
func (x *Client) voted(from, number, latest int, vote api.Vote) {
	q := &x.move.votes
	if q.awaits(number, from) {
		x.behind(latest)
	}
	if !q.awaits(number, from) {
		return
	}
	q.answers[from] = vote
	switch q.request.Kind {
	case packets.Recall:
		x.recalled()
	case packets.Prepare:
		x.prepared()
	case packets.Accept:
		x.accepted()
	}
}

func (x *Client) majority() int {
	return x.config.Voters/2 + 1
}

func (x *Client) recalled() {
	answers := x.move.votes.answers
	if vote, ok := agreed(answers, x.majority()); ok {
		x.adopt(vote.Value)
		return
	}
	if len(answers) < x.majority() {
		return
	}
	if x.move.chosen {
		x.adopt(highest(answers).Value)
		return
	}
	x.undecided()
}

// undecided: whoever has a change takes part at once. Others do so only when a
// Tick has gone by: whoever has begun should be able to end it, or else a change
// might be kept from being chosen by those that it keeps waiting.
func (x *Client) undecided() {
	x.waiting.begun = true
	if !x.hasChanges() && !x.waiting.longer {
		return
	}
	x.move.begun = x.move.votes.answers
	if !x.move.seals.asks() {
		x.seal()
	}
	x.prepare()
}

func (x *Client) seal() {
	q := packets.Request{Kind: packets.Seal, Line: packets.MoveLine, Number: x.number(), Epoch: x.move.epoch}
	x.move.seals = newQuestion[api.Reply](layouts.All(x.layout), q)
}

// sealed: a unit more is sealed, with which the move may go on.
func (x *Client) sealed(api.Reply) {
	switch x.move.votes.request.Kind {
	case packets.Recall:
		x.prepare()
	case packets.Prepare:
		x.prepared()
	}
}

// prepare has voters promise, when there is something to vote for. Who has
// nothing would only keep others from it.
func (x *Client) prepare() {
	if _, ok := x.proposal(); ok {
		x.move.ballot = x.nextBallot(promised(x.move.begun))
		x.askVoters(packets.Request{Kind: packets.Prepare, Place: x.move.ballot})
	}
}

// nextBallot gives one that is above those that were promised, and that no other
// client takes.
func (x *Client) nextBallot(promised int) int {
	const apart = api.LastClient - api.FirstClient + 1
	x.ballot = (max(promised, x.ballot)/apart+1)*apart + x.id - api.FirstClient
	return x.ballot
}

// prepared: if something was voted for, it may have been chosen, and nothing else
// may be voted for any more. Any majority will do to tell, and one may be there
// that knows nothing of a layout with which nothing could be done.
func (x *Client) prepared() {
	answers := done(x.move.votes.answers)
	vote := highest(x.living(answers))
	if len(until(vote.Ballot, answers)) < x.majority() {
		return
	}
	x.move.value = vote.Value
	if vote.Ballot == 0 {
		x.move.value, _ = x.proposal()
	}
	content := api.Content{Value: x.move.value}
	x.askVoters(packets.Request{Kind: packets.Accept, Place: x.move.ballot, Content: content})
}

func (x *Client) accepted() {
	if len(done(x.move.votes.answers)) >= x.majority() {
		x.adopt(x.move.value)
	}
}

// adopt goes over to a layout that has been chosen.
func (x *Client) adopt(value []byte) {
	layout, ok := layouts.Within(x.layout, value)
	epoch := x.move.epoch
	x.move = move{}
	if !ok {
		return
	}
	x.epoch, x.layout, x.waiting = epoch, layout, waiting{}
	for _, c := range x.calls() {
		x.over(c)
	}
	if x.hasChanges() || x.told > x.epoch {
		x.startMove()
	}
}

// over takes a call over to a new layout.
func (x *Client) over(c *call) {
	switch {
	case c.kind == changing:
		x.settle(c)
	case !c.wants():
		x.do(c)
	}
}
