// Package votes keeps what a voter keeps: for each epoch a promise and a vote,
// and the image from which all that is opened again.
package votes

import (
	"bytes"

	"furrow/api"
	"furrow/record"
)

// MaxValue is how many bytes a value that is voted for has at most.
const MaxValue = 255

const (
	firstEpoch  = 1
	firstBallot = 1
)

// The kinds of records in an image.
const (
	prepareRecord = 1 // epoch, ballot
	acceptRecord  = 2 // epoch, ballot; the value
)

func shapes() []record.Shape {
	return []record.Shape{
		{Kind: prepareRecord, Numbers: 2},
		{Kind: acceptRecord, Numbers: 2, Value: MaxValue},
	}
}

// Voter is one voter. An epoch that nothing is kept of has no promise and no vote.
type Voter struct {
	epochs map[int]epochState
	image  record.Image
}

// epochState has the vote (ballot, value); a ballot of 0 is no vote.
type epochState struct {
	promise, ballot int
	value           []byte
}

// Open opens a voter from an image, or from the beginning of one.
func Open(image []byte) (*Voter, api.Errno) {
	v := &Voter{epochs: make(map[int]epochState)}
	if !v.image.Open(image, shapes(), v.again) {
		return nil, api.ErrImage
	}
	return v, api.OK
}

// again does the call that a record tells of.
func (v *Voter) again(r record.Record) {
	epoch, ballot := r.Numbers[0], r.Numbers[1]
	switch r.Kind {
	case prepareRecord:
		v.Prepare(epoch, ballot)
	case acceptRecord:
		v.Accept(epoch, ballot, r.Value)
	}
}

// Prepare promises to let in no ballot of the epoch below this one, and tells
// what was voted for.
func (v *Voter) Prepare(epoch int, ballot int) api.Vote {
	state := v.epochs[epoch]
	if epoch < firstEpoch || ballot < firstBallot || ballot <= state.promise {
		return refused(state)
	}
	v.promise(epoch, ballot)
	return api.Vote{What: api.Done, Promise: ballot, Ballot: state.ballot, Value: bytes.Clone(state.value)}
}

// Accept votes for the value, if no higher ballot was promised.
func (v *Voter) Accept(epoch int, ballot int, value []byte) api.Vote {
	state := v.epochs[epoch]
	if epoch < firstEpoch || ballot < firstBallot || ballot < state.promise || !mayBeVoted(value) {
		return refused(state)
	}
	// A vote that is asked for again and again must not make the image grow.
	if ballot != state.ballot || !bytes.Equal(value, state.value) {
		v.vote(epoch, ballot, value)
	}
	return api.Vote{What: api.Done, Promise: ballot}
}

// Recall tells of an epoch the promise and the vote, and changes nothing.
func (v *Voter) Recall(epoch int) api.Vote {
	state := v.epochs[epoch]
	return api.Vote{What: api.Done, Promise: state.promise, Ballot: state.ballot, Value: bytes.Clone(state.value)}
}

// Latest tells the latest epoch of which something was promised; 0, if there is
// none.
func (v *Voter) Latest() int {
	latest := 0
	for epoch := range v.epochs {
		latest = max(latest, epoch)
	}
	return latest
}

// Image gives all that was kept, as bytes.
func (v *Voter) Image() []byte {
	return v.image.Bytes()
}

// A call leaves at most one record: the two below are the only ones that change
// a voter, and a call takes one of them.

func (v *Voter) promise(epoch, ballot int) {
	state := v.epochs[epoch]
	state.promise = ballot
	v.epochs[epoch] = state
	v.image.Keep(record.Record{Kind: prepareRecord, Numbers: []int{epoch, ballot}})
}

func (v *Voter) vote(epoch, ballot int, value []byte) {
	v.epochs[epoch] = epochState{promise: ballot, ballot: ballot, value: bytes.Clone(value)}
	v.image.Keep(record.Record{Kind: acceptRecord, Numbers: []int{epoch, ballot}, Value: value})
}

func mayBeVoted(value []byte) bool {
	return len(value) >= 1 && len(value) <= MaxValue
}

func refused(state epochState) api.Vote {
	return api.Vote{What: api.Refused, Promise: state.promise}
}
