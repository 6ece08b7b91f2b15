package furrow_test

import (
	"bytes"
	"math"
	"math/rand"
	"testing"

	"furrow/api"
	"furrow/furrow"
)

func openVoter(t *testing.T, image []byte) *furrow.Voter {
	t.Helper()
	v, e := furrow.OpenVoter(image)
	if v == nil || e != api.OK {
		t.Fatalf("OpenVoter(%v) = %v, %d", image, v, e)
	}
	return v
}

func sameVote(a, b api.Vote) bool {
	return a.What == b.What && a.Promise == b.Promise && a.Ballot == b.Ballot && bytes.Equal(a.Value, b.Value)
}

func expectVote(t *testing.T, what string, got, want api.Vote) {
	t.Helper()
	if !sameVote(got, want) {
		t.Errorf("%s = %+v, want %+v", what, got, want)
	}
}

func promised(promise int) api.Vote {
	return api.Vote{What: api.Done, Promise: promise}
}

func voted(promise, ballot int, value string) api.Vote {
	return api.Vote{What: api.Done, Promise: promise, Ballot: ballot, Value: []byte(value)}
}

func refused(promise int) api.Vote {
	return api.Vote{What: api.Refused, Promise: promise}
}

func TestP7Example(t *testing.T) {
	v := openVoter(t, nil)
	expectVote(t, "Prepare(1, 5)", v.Prepare(1, 5), promised(5))
	expectVote(t, "Prepare(1, 5) again", v.Prepare(1, 5), refused(5))
	expectVote(t, "Accept(1, 4, x)", v.Accept(1, 4, []byte("x")), refused(5))
	expectVote(t, "Accept(1, 5, x)", v.Accept(1, 5, []byte("x")), promised(5))
	expectVote(t, "Prepare(1, 9)", v.Prepare(1, 9), voted(9, 5, "x"))
	expectVote(t, "Prepare(2, 1)", v.Prepare(2, 1), promised(1))
}

func TestP7PrepareAsksForMoreThanThePromise(t *testing.T) {
	v := openVoter(t, nil)
	for _, ballot := range []int{math.MinInt, -1, 0} {
		expectVote(t, "Prepare of no ballot", v.Prepare(1, ballot), refused(0))
	}
	expectVote(t, "Prepare(1, 1)", v.Prepare(1, 1), promised(1))
	expectVote(t, "Prepare(1, 7)", v.Prepare(1, 7), promised(7))
	for _, ballot := range []int{math.MinInt, -7, 0, 1, 6, 7} {
		expectVote(t, "Prepare not above the promise", v.Prepare(1, ballot), refused(7))
	}
	expectVote(t, "Prepare(1, 8)", v.Prepare(1, 8), promised(8))
	expectVote(t, "Prepare(1, max)", v.Prepare(1, math.MaxInt), promised(math.MaxInt))
	expectVote(t, "Prepare(1, max) again", v.Prepare(1, math.MaxInt), refused(math.MaxInt))
}

func TestP7AcceptAsksForThePromiseOrMore(t *testing.T) {
	v := openVoter(t, nil)
	for _, ballot := range []int{math.MinInt, -1, 0} {
		expectVote(t, "Accept of no ballot", v.Accept(1, ballot, []byte("a")), refused(0))
	}
	expectVote(t, "Accept without a promise", v.Accept(1, 1, []byte("a")), promised(1))
	v.Prepare(1, 7)
	for _, ballot := range []int{math.MinInt, -7, 0, 1, 6} {
		expectVote(t, "Accept below the promise", v.Accept(1, ballot, []byte("b")), refused(7))
	}
	expectVote(t, "Prepare behind what was refused", v.Prepare(1, 8), voted(8, 1, "a"))
	expectVote(t, "Accept at the promise", v.Accept(1, 8, []byte("c")), promised(8))
	expectVote(t, "Accept above the promise", v.Accept(1, 20, []byte("d")), promised(20))
	expectVote(t, "Accept below what was accepted", v.Accept(1, 19, []byte("e")), refused(20))
	expectVote(t, "Prepare of what was accepted", v.Prepare(1, 20), refused(20))
	expectVote(t, "Prepare(1, 21)", v.Prepare(1, 21), voted(21, 20, "d"))
	expectVote(t, "Accept(1, max)", v.Accept(1, math.MaxInt, []byte("f")), promised(math.MaxInt))
	expectVote(t, "Accept(1, max - 1)", v.Accept(1, math.MaxInt-1, []byte("g")), refused(math.MaxInt))
}

// Of one ballot, too, the vote is the one accepted last.
func TestP7AcceptTwiceOfOneBallot(t *testing.T) {
	v := openVoter(t, nil)
	expectVote(t, "Accept(1, 3, a)", v.Accept(1, 3, []byte("a")), promised(3))
	image := v.Image()
	expectVote(t, "Accept(1, 3, a) again", v.Accept(1, 3, []byte("a")), promised(3))
	if !bytes.Equal(v.Image(), image) {
		t.Error("a vote that was there has made the image grow")
	}
	expectVote(t, "Accept(1, 3, b)", v.Accept(1, 3, []byte("b")), promised(3))
	expectVote(t, "Prepare(1, 4)", openVoter(t, v.Image()).Prepare(1, 4), voted(4, 3, "b"))
	expectVote(t, "Prepare(1, 4)", v.Prepare(1, 4), voted(4, 3, "b"))
	expectVote(t, "Accept(1, 4, b)", v.Accept(1, 4, []byte("b")), promised(4))
	expectVote(t, "Prepare(1, 5)", openVoter(t, v.Image()).Prepare(1, 5), voted(5, 4, "b"))
	expectVote(t, "Prepare(1, 5)", v.Prepare(1, 5), voted(5, 4, "b"))
}

func TestP7ValuesOfEveryLength(t *testing.T) {
	for _, length := range []int{0, 1, 2, 8, 9, 127, 128, 254, 255, 256, 257, 511, 512, 1 << 16, 1<<16 + 1} {
		v := openVoter(t, nil)
		v.Prepare(1, 2)
		image := v.Image()
		value := bytes.Repeat([]byte{0, 2, 255}, length)[:length]
		if length < 1 || length > 255 {
			expectVote(t, "Accept of no value", v.Accept(1, 5, value), refused(2))
			if !bytes.Equal(v.Image(), image) {
				t.Errorf("a value of %d bytes has changed the image", length)
			}
			expectVote(t, "Prepare behind no value", v.Prepare(1, 3), promised(3))
			continue
		}
		expectVote(t, "Accept", v.Accept(1, 5, value), promised(5))
		opened := openVoter(t, v.Image())
		expectVote(t, "Prepare", v.Prepare(1, 6), voted(6, 5, string(value)))
		expectVote(t, "Prepare behind opening", opened.Prepare(1, 6), voted(6, 5, string(value)))
	}
}

func TestP7NoEpochsBelowOne(t *testing.T) {
	v := openVoter(t, nil)
	v.Prepare(1, 3)
	image := v.Image()
	for _, epoch := range []int{math.MinInt, math.MinInt + 1, -1 << 32, -1, 0} {
		for _, ballot := range extremes {
			expectVote(t, "Prepare below the epochs", v.Prepare(epoch, ballot), refused(0))
			expectVote(t, "Accept below the epochs", v.Accept(epoch, ballot, []byte("a")), refused(0))
			expectVote(t, "Accept of nothing below the epochs", v.Accept(epoch, ballot, nil), refused(0))
		}
	}
	if !bytes.Equal(v.Image(), image) {
		t.Error("what was refused has changed the image")
	}
}

func TestP7EpochsStandApart(t *testing.T) {
	v := openVoter(t, nil)
	v.Prepare(5, 50)
	v.Accept(5, 50, []byte("five"))
	for _, epoch := range []int{1, 4, 6, 261, 1<<32 + 5, math.MaxInt} {
		expectVote(t, "Accept in a new epoch", v.Accept(epoch, 2, []byte("new")), promised(2))
		expectVote(t, "Accept in a new epoch", v.Accept(epoch, 1, []byte("low")), refused(2))
	}
	expectVote(t, "Prepare(5, 51)", v.Prepare(5, 51), voted(51, 50, "five"))
	expectVote(t, "Prepare(4, 3)", v.Prepare(4, 3), voted(3, 2, "new"))
	expectVote(t, "Prepare(7, 1)", v.Prepare(7, 1), promised(1))
	expectVote(t, "Prepare(7, 0)", v.Prepare(7, 0), refused(1))
}

// A refused call changes nothing, whatever it was refused for.
func TestP7WhatIsRefusedChangesNothing(t *testing.T) {
	long := make([]byte, 256)
	calls := []ask{
		{prepare: true, epoch: 1, ballot: 7}, {prepare: true, epoch: 1, ballot: 6}, {prepare: true, epoch: 1, ballot: -1}, {prepare: true, epoch: 2},
		{epoch: 1, ballot: 6, value: []byte("b")}, {epoch: 1, ballot: 8}, {epoch: 1, ballot: 8, value: long}, {epoch: 2, ballot: 0, value: []byte("b")},
		{epoch: 2, ballot: -5, value: []byte("b")}, {epoch: 2, ballot: 5}, {prepare: true, epoch: 0, ballot: 9}, {epoch: 0, ballot: 9, value: []byte("b")},
	}
	v := openVoter(t, nil)
	v.Accept(1, 7, []byte("a"))
	image := v.Image()
	for _, a := range calls {
		if got := a.of(v); got.What != api.Refused {
			t.Errorf("%+v = %+v", a, got)
		}
		if !bytes.Equal(v.Image(), image) {
			t.Errorf("%+v has changed the image", a)
		}
	}
	expectVote(t, "Accept(1, 7, a)", v.Accept(1, 7, []byte("a")), promised(7))
	expectVote(t, "Prepare(1, 8)", v.Prepare(1, 8), voted(8, 7, "a"))
	expectVote(t, "Prepare(2, 1)", v.Prepare(2, 1), promised(1))
}

// ask is a call of a voter: Prepare, else Accept.
type ask struct {
	prepare       bool
	epoch, ballot int
	value         []byte
}

func (a ask) of(v *furrow.Voter) api.Vote {
	if a.prepare {
		return v.Prepare(a.epoch, a.ballot)
	}
	return v.Accept(a.epoch, a.ballot, a.value)
}

// asks gives calls that mostly do something; now and then a number of any size.
func asks(r *rand.Rand, count int) []ask {
	list := make([]ask, count)
	ballot := 0
	for i := range list {
		ballot += r.Intn(3)
		a := ask{prepare: r.Intn(2) == 0, epoch: r.Intn(5), ballot: ballot - r.Intn(4)}
		switch r.Intn(30) {
		case 0:
			a.epoch = extremes[r.Intn(len(extremes))]
		case 1:
			a.ballot = extremes[r.Intn(len(extremes))]
		}
		if !a.prepare {
			a.value = make([]byte, []int{1, r.Intn(9), 255 + r.Intn(2)}[r.Intn(3)])
			r.Read(a.value)
		}
		list[i] = a
	}
	return list
}

// voterModel is P7 said once more, without an image.
type voterModel struct {
	promises, ballots map[int]int
	values            map[int][]byte
}

func newVoterModel() *voterModel {
	return &voterModel{promises: map[int]int{}, ballots: map[int]int{}, values: map[int][]byte{}}
}

func (m *voterModel) do(a ask) api.Vote {
	promise := m.promises[a.epoch]
	if a.epoch < 1 || a.ballot < 1 {
		return refused(promise)
	}
	if a.prepare {
		if a.ballot <= promise {
			return refused(promise)
		}
		m.promises[a.epoch] = a.ballot
		return voted(a.ballot, m.ballots[a.epoch], string(m.values[a.epoch]))
	}
	if a.ballot < promise || len(a.value) < 1 || len(a.value) > 255 {
		return refused(promise)
	}
	m.promises[a.epoch], m.ballots[a.epoch], m.values[a.epoch] = a.ballot, a.ballot, a.value
	return promised(a.ballot)
}

func TestP7AsTheModel(t *testing.T) {
	for seed := range int64(200) {
		r := rand.New(rand.NewSource(seed))
		v, m := openVoter(t, nil), newVoterModel()
		for i, a := range asks(r, 120) {
			if got, want := a.of(v), m.do(a); !sameVote(got, want) {
				t.Fatalf("seed %d, call %d: %+v = %+v, want %+v", seed, i, a, got, want)
			}
			if i%10 == 0 {
				v = openVoter(t, v.Image())
			}
		}
	}
}

func TestP1VotersAtAllNumbers(t *testing.T) {
	for _, epoch := range extremes {
		for _, ballot := range extremes {
			v, m := openVoter(t, nil), newVoterModel()
			for _, a := range []ask{
				{prepare: true, epoch: epoch, ballot: ballot}, {epoch: epoch, ballot: ballot, value: []byte("v")}, {epoch: epoch, ballot: ballot},
				{prepare: true, epoch: ballot, ballot: epoch}, {epoch: ballot, ballot: epoch, value: []byte("w")},
			} {
				expectVote(t, "a call", a.of(v), m.do(a))
			}
			if again := openVoter(t, v.Image()); !bytes.Equal(again.Image(), v.Image()) {
				t.Errorf("the image %v opens as %v", v.Image(), again.Image())
			}
		}
	}
}

func TestP2AcceptLeavesAndForgetsTheValue(t *testing.T) {
	v := openVoter(t, nil)
	value := []byte("value#room")[:5]
	v.Accept(1, 1, value)
	v.Accept(1, 1, value)
	v.Accept(1, 0, value)
	v.Prepare(1, 2)
	if string(value[:10]) != "value#room" {
		t.Errorf("the value handed in has become %q", value[:10])
	}
	image := v.Image()
	fill(value)
	expectVote(t, "Prepare", v.Prepare(1, 3), voted(3, 1, "value"))
	if !bytes.HasPrefix(v.Image(), image) {
		t.Error("the image has changed with the value handed in")
	}
}

func TestP2VotesAreTheCallers(t *testing.T) {
	v := openVoter(t, nil)
	v.Accept(1, 1, []byte("value"))
	image := v.Image()
	first, second := v.Prepare(1, 2), v.Prepare(1, 3)
	fill(first.Value)
	expectVote(t, "the second answer", second, voted(3, 1, "value"))
	fill(second.Value)
	expectVote(t, "Prepare", v.Prepare(1, 4), voted(4, 1, "value"))
	expectVote(t, "Prepare behind opening", openVoter(t, v.Image()).Prepare(1, 5), voted(5, 1, "value"))
	if !bytes.HasPrefix(v.Image(), image) {
		t.Error("the image has changed with an answer")
	}
}

func TestP2VotersKnowNothingOfOneAnother(t *testing.T) {
	a := openVoter(t, nil)
	a.Accept(1, 1, []byte("old"))
	b := openVoter(t, a.Image())
	a.Accept(1, 2, []byte("of a"))
	b.Accept(1, 9, []byte("of b"))
	b.Prepare(2, 9)
	expectVote(t, "a.Prepare(2, 1)", a.Prepare(2, 1), promised(1))
	expectVote(t, "a.Prepare(1, 3)", a.Prepare(1, 3), voted(3, 2, "of a"))
	expectVote(t, "b.Prepare(1, 10)", b.Prepare(1, 10), voted(10, 9, "of b"))
	expectVote(t, "Prepare behind opening", openVoter(t, a.Image()).Prepare(1, 4), voted(4, 2, "of a"))
}
