package clients

import (
	"bytes"
	"testing"

	"furrow/api"
)

func ballots(of ...int) map[int]api.Vote {
	votes := map[int]api.Vote{}
	for i, ballot := range of {
		votes[100+i] = api.Vote{What: api.Done, Promise: ballot + i, Ballot: ballot, Value: bytes.Repeat([]byte{byte(ballot)}, min(ballot, 1))}
	}
	return votes
}

func TestAgreedIsWhatAMajorityHasVotedFor(t *testing.T) {
	cases := []struct {
		votes    map[int]api.Vote
		majority int
		ballot   int
	}{
		{ballots(), 1, 0}, {ballots(0), 1, 0}, {ballots(7), 1, 7},
		{ballots(0, 0), 2, 0}, {ballots(7), 2, 0}, {ballots(7, 0), 2, 0}, {ballots(7, 8), 2, 0}, {ballots(7, 7), 2, 7},
		{ballots(9, 7, 7), 2, 7}, {ballots(7, 0, 7), 2, 7}, {ballots(0, 0, 7), 2, 0},
		{ballots(7, 7, 8, 8), 3, 0}, {ballots(8, 7, 7, 9, 7), 3, 7},
	}
	for _, c := range cases {
		vote, ok := agreed(c.votes, c.majority)
		if ok != (c.ballot > 0) || vote.Ballot != c.ballot || ok && int(vote.Value[0]) != c.ballot {
			t.Errorf("of %v: %+v, %v, want %d", c.votes, vote, ok, c.ballot)
		}
	}
}

func TestHighestAndPromised(t *testing.T) {
	if vote := highest(ballots()); vote.Ballot != 0 || promised(ballots()) != 0 {
		t.Errorf("of none: %+v, %d", vote, promised(ballots()))
	}
	if vote := highest(ballots(3, 9, 4)); vote.Ballot != 9 || vote.Value[0] != 9 {
		t.Errorf("the highest is %+v", vote)
	}
	if most := promised(ballots(3, 9, 9, 4)); most != 11 {
		t.Errorf("promised is %d", most)
	}
}

func TestUntilKeepsThoseThatAreNotAbove(t *testing.T) {
	for ballot, want := range map[int]int{0: 1, 2: 1, 3: 2, 4: 3, 8: 3, 9: 5, 10: 5} {
		votes := ballots(3, 9, 0, 9, 4)
		left := until(ballot, votes)
		if len(left) != want || len(votes) != 5 {
			t.Errorf("until %d: %v are left of %v, want %d", ballot, left, votes, want)
		}
	}
}

// In whatever order the votes are gone through, one comes out.
func TestHighestOfEqualBallots(t *testing.T) {
	votes := map[int]api.Vote{}
	for i := range 5 {
		votes[100+i] = api.Vote{Ballot: 4, Value: []byte{byte(i)}}
	}
	for range 100 {
		if vote := highest(votes); vote.Value[0] != 4 {
			t.Fatalf("the highest is %+v", vote)
		}
	}
}

// Ballots rise, are above what was promised, and no two clients have the same.
func TestBallots(t *testing.T) {
	seen := map[int]bool{}
	for id := api.FirstClient; id <= api.LastClient; id++ {
		x, _ := New(api.Config{Chains: 1, Units: 2, Voters: 1, Cells: 1}, id)
		last := 0
		for _, promised := range []int{0, 0, 5, 100, 99, 7, 1234, 0} {
			ballot := x.nextBallot(promised)
			if ballot <= promised || ballot <= last || seen[ballot] {
				t.Errorf("client %d: the ballot behind %d and %d is %d", id, last, promised, ballot)
			}
			last = ballot
			seen[ballot] = true
		}
	}
}
