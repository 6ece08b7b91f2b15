package clients

import (
	"maps"
	"slices"

	"furrow/api"
	"furrow/layouts"
)

// proposal gives what to vote for, if it is free; false, as long as there is
// nothing. What others have begun comes first: it may have been chosen, and then
// the units that it leaves out may be gone, for which the client's own layout would
// wait for ever. Those who began it have had units sealed for it; here it is enough
// that its own units are there.
func (x *Client) proposal() ([]byte, bool) {
	if vote := highest(x.living(x.move.begun)); vote.Ballot > 0 {
		return vote.Value, true
	}
	next, ok := x.next()
	return layouts.Bytes(next), ok
}

// next gives the layout without a unit that is to be left out, if the units that
// are sealed are enough: as soon as there is one in each chain, nobody can end a
// read or a trim with the old layout any more who begins it from now on, nor write
// what the units of the new one don't have. The first change comes first; but it
// may lack units that are gone, and that another one is to leave out.
func (x *Client) next() ([][]int, bool) {
	outs := x.changes()
	if len(outs) == 0 {
		outs = []int{layouts.None}
	}
	for _, out := range outs {
		if next, e := layouts.Next(x.layout, out, x.sealedUnits()); e == api.OK {
			return next, true
		}
	}
	return nil, false
}

func (x *Client) sealedUnits() []int {
	return slices.Collect(maps.Keys(x.move.seals.answers))
}

// living gives the votes but those for a layout with a chain of which no unit is
// there: nothing could be done with it. If it had been chosen, one would be.
func (x *Client) living(votes map[int]api.Vote) map[int]api.Vote {
	left := maps.Clone(votes)
	maps.DeleteFunc(left, func(_ int, v api.Vote) bool { return v.Ballot > 0 && !x.lives(v.Value) })
	return left
}

func (x *Client) lives(value []byte) bool {
	layout, ok := layouts.Within(x.layout, value)
	if !ok {
		return false
	}
	_, e := layouts.Next(layout, layouts.None, x.sealedUnits())
	return e == api.OK
}

// changes gives the units that are to be left out, in the calls' order.
func (x *Client) changes() []int {
	var units []int
	for _, c := range x.calls() {
		if c.kind == changing {
			units = append(units, c.unit)
		}
	}
	return units
}

func (x *Client) hasChanges() bool {
	return len(x.changes()) > 0
}
