package clients

import (
	"bytes"
	"maps"

	"furrow/api"
)

// agreed gives the vote that a majority has cast, if there is one.
func agreed(votes map[int]api.Vote, majority int) (api.Vote, bool) {
	counts := make(map[int]int)
	for _, v := range votes {
		counts[v.Ballot]++
	}
	few := func(_ int, v api.Vote) bool { return counts[v.Ballot] < majority }
	cast := maps.Clone(votes)
	maps.DeleteFunc(cast, few)
	best := highest(cast)
	return best, best.Ballot > 0
}

// highest gives the vote of the highest ballot; one of the ballot 0, if nobody
// has voted. If something has been chosen, this is a vote for it, when a majority
// has told.
func highest(votes map[int]api.Vote) api.Vote {
	var best api.Vote
	for _, v := range votes {
		if v.Ballot > best.Ballot || v.Ballot == best.Ballot && bytes.Compare(v.Value, best.Value) > 0 {
			best = v
		}
	}
	return best
}

// promised gives the highest ballot that was promised.
func promised(votes map[int]api.Vote) int {
	most := 0
	for _, v := range votes {
		most = max(most, v.Promise)
	}
	return most
}

// done gives the answers that did not refuse.
func done(votes map[int]api.Vote) map[int]api.Vote {
	did := maps.Clone(votes)
	maps.DeleteFunc(did, func(_ int, v api.Vote) bool { return v.What != api.Done })
	return did
}

// until gives the votes of ballots that are not above this one.
func until(ballot int, votes map[int]api.Vote) map[int]api.Vote {
	left := maps.Clone(votes)
	maps.DeleteFunc(left, func(_ int, v api.Vote) bool { return v.Ballot > ballot })
	return left
}
