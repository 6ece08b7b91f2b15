package votes_test

import (
	"bytes"
	"math"
	"testing"

	"furrow/api"
	"furrow/votes"
)

func TestLatestIsTheLastEpochOfWhichSomethingWasPromised(t *testing.T) {
	v, _ := votes.Open(nil)
	latest := func(want int) {
		t.Helper()
		opened, _ := votes.Open(v.Image())
		if v.Latest() != want || opened.Latest() != want {
			t.Errorf("the latest epoch is %d, opened again %d, want %d", v.Latest(), opened.Latest(), want)
		}
	}
	latest(0)
	v.Recall(9)
	v.Prepare(9, 0)
	v.Accept(9, 1, nil)
	v.Prepare(0, 1)
	latest(0)
	v.Prepare(3, 7)
	latest(3)
	v.Accept(2, 7, []byte("x"))
	v.Prepare(4, -1)
	latest(3)
	v.Accept(5, 1, []byte("x"))
	latest(5)
	v.Prepare(math.MaxInt, 1)
	latest(math.MaxInt)
}

func TestRecallTellsAndChangesNothing(t *testing.T) {
	v, _ := votes.Open(nil)
	recalls := func(epoch int, want api.Vote) {
		t.Helper()
		image := v.Image()
		for range 2 {
			got := v.Recall(epoch)
			if got.What != api.Done || got.Promise != want.Promise || got.Ballot != want.Ballot || !bytes.Equal(got.Value, want.Value) {
				t.Errorf("Recall(%d) = %+v, want %+v", epoch, got, want)
			}
			clear(got.Value)
		}
		if !bytes.Equal(v.Image(), image) {
			t.Error("the image has changed")
		}
	}
	for _, epoch := range []int{math.MinInt, -1, 0, 1, math.MaxInt} {
		recalls(epoch, api.Vote{})
	}
	v.Prepare(1, 5)
	recalls(1, api.Vote{Promise: 5})
	v.Accept(1, 7, []byte("x"))
	recalls(1, api.Vote{Promise: 7, Ballot: 7, Value: []byte("x")})
	v.Prepare(1, 9)
	recalls(1, api.Vote{Promise: 9, Ballot: 7, Value: []byte("x")})
	recalls(2, api.Vote{})
}
