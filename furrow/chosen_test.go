package furrow_test

import (
	"bytes"
	"math"
	"math/rand"
	"slices"
	"strconv"
	"testing"

	"furrow/api"
	"furrow/furrow"
	"furrow/layouts"
	"furrow/packets"
)

// chosen is what voters have voted for, and what was chosen so.
type chosen struct {
	voters map[[2]int]map[int]bool // of an epoch and a ballot
	votes  []api.Vote              // those by which the layouts of the epochs 1 and on were chosen
}

// voteOf tells what a voter has voted for, by its image.
func (w *world) voteOf(voter, epoch int) api.Vote {
	w.t.Helper()
	v, e := furrow.OpenVoter(w.nodes[voter].Image())
	if e != api.OK {
		w.t.Fatalf("OpenVoter = %d", e)
	}
	return v.Prepare(epoch, math.MaxInt)
}

// watch notes what a voter has voted for, when it is to tell it.
func (w *world) watch(voter int) {
	w.t.Helper()
	c := w.chosen
	epoch := len(c.votes) + 1
	vote := w.voteOf(voter, epoch)
	if vote.Ballot == 0 {
		return
	}
	key := [2]int{epoch, vote.Ballot}
	if c.voters[key] == nil {
		c.voters[key] = map[int]bool{}
	}
	c.voters[key][voter] = true
	if len(c.voters[key]) > w.c.Voters/2 {
		c.votes = append(c.votes, vote)
	}
}

// onlyOne holds all voters to what was chosen: of each epoch one layout.
func (w *world) onlyOne(name string) {
	w.t.Helper()
	for i, vote := range w.chosen.votes {
		for _, voter := range voters(w.c) {
			if w.nodes[voter] == nil {
				continue
			}
			if v := w.voteOf(voter, i+1); v.Ballot > vote.Ballot && !bytes.Equal(v.Value, vote.Value) {
				w.t.Fatalf("%s: %v was chosen for the epoch %d, and %d votes for %v", name, vote.Value, i+1, voter, v.Value)
			}
		}
	}
}

// layout gives the one that was chosen last.
func (w *world) layout() [][]int {
	w.t.Helper()
	first := layouts.First(w.c)
	if len(w.chosen.votes) == 0 {
		return first
	}
	return w.read(w.chosen.votes[len(w.chosen.votes)-1].Value)
}

func (w *world) read(value []byte) [][]int {
	w.t.Helper()
	layout, ok := layouts.Within(layouts.First(w.c), value)
	if !ok {
		w.t.Fatalf("%v is no layout", value)
	}
	return layout
}

// lives tells whether each chain has a unit that is there.
func lives(layout [][]int, gone map[int]bool) bool {
	for _, chain := range layout {
		if !slices.ContainsFunc(chain, func(unit int) bool { return !gone[unit] }) {
			return false
		}
	}
	return true
}

// mayBeGone tells which units P13 does without: those that were left out, and
// those that a pending change leaves out, if they are not their chain's last.
func (w *world) mayBeGone() []int {
	w.t.Helper()
	units := map[int]bool{}
	for unit := range w.units() {
		units[unit] = !slices.Contains(layouts.All(w.layout()), unit)
	}
	for _, m := range w.calls {
		if m.kind == aChange && m.end == never && w.clients[m.client] != nil {
			units[m.address] = true
		}
	}
	for _, chain := range w.layout() {
		if len(chain) == 1 {
			units[chain[0]] = false
		}
	}
	var all []int
	for unit := range w.units() {
		if units[unit] {
			all = append(all, unit)
		}
	}
	return all
}

// loseAsP13Says stops for good units and voters that need not be there. A layout
// that is voted for, and whose units are gone, must not be one that may have been
// chosen, for all that the voters know that are left.
func (w *trouble) loseAsP13Says() {
	w.t.Helper()
	for _, voter := range voters(w.c) {
		w.watch(voter)
	}
	may := w.mayBeGone()
	for range 20 {
		gone := map[int]bool{}
		for _, unit := range may {
			gone[unit] = w.r.Intn(4) > 0
		}
		out := w.r.Perm(w.c.Voters)[:w.r.Intn(w.c.Voters/2+1)]
		if !lives(w.layout(), gone) || !w.tell(gone, out) {
			continue
		}
		w.lose(gone, out)
		return
	}
}

// tell tells whether of the voters that are left a majority has not voted, or not
// later than for a layout with units that are there.
func (w *trouble) tell(gone map[int]bool, out []int) bool {
	w.t.Helper()
	var left []api.Vote
	most := 0
	for i, voter := range voters(w.c) {
		if slices.Contains(out, i) {
			continue
		}
		vote := w.voteOf(voter, len(w.chosen.votes)+1)
		left = append(left, vote)
		if vote.Ballot > most && lives(w.read(vote.Value), gone) {
			most = vote.Ballot
		}
	}
	left = slices.DeleteFunc(left, func(v api.Vote) bool { return v.Ballot > most })
	return len(left) > w.c.Voters/2
}

func (w *trouble) lose(gone map[int]bool, out []int) {
	for unit := range w.units() {
		if gone[unit] {
			delete(w.nodes, unit)
		}
	}
	for _, i := range out {
		delete(w.nodes, voters(w.c)[i])
	}
}

// begunChanges is a world in which clients leave out any units, and reach some of
// the voters and units alone; at its end they are in the middle of something.
func begunChanges(t *testing.T, c api.Config, clients int, seed int64) *trouble {
	t.Helper()
	w := newTrouble(t, c, clients, seed)
	w.kept = map[int]bool{}
	w.chosen = &chosen{voters: map[[2]int]map[int]bool{}}
	for range 1 + w.r.Intn(4) {
		for _, id := range w.those() {
			if w.r.Intn(2) == 0 {
				w.changeSome(id)
			}
		}
		w.while(8 + w.r.Intn(12))
		w.restart()
	}
	for range w.r.Intn(12) {
		w.step(w.passes)
	}
	w.letters = nil
	return w
}

// ranked has letters handed in, in each step, in an order of those they come from.
func (w *world) ranked(order []int) {
	w.rank = map[int]int{}
	for i, id := range order {
		w.rank[id] = i
	}
}

// anyOrder draws an order that is the same in all steps, or leaves it as it was.
func (w *trouble) anyOrder() {
	all := w.all()
	switch w.r.Intn(3) {
	case 0:
		w.r.Shuffle(len(all), func(i, j int) { all[i], all[j] = all[j], all[i] })
		w.ranked(all)
	case 1:
		slices.Reverse(all)
		w.ranked(all)
	}
}

// When all is gone that P13 does without, everything must end nevertheless.
func TestP13WhateverVotersKnow(t *testing.T) {
	for seed := range seeds(4000) {
		r := rand.New(rand.NewSource(int64(seed)))
		c := config(1+r.Intn(3), 2+r.Intn(2), 1+2*r.Intn(3), 1+r.Intn(2))
		w := begunChanges(t, c, 2+r.Intn(4), int64(seed))
		if r.Intn(3) == 0 {
			delete(w.clients, w.client())
		}
		w.loseAsP13Says()
		w.anyOrder()
		w.settle()
		name := "seed " + strconv.Itoa(seed)
		w.onlyOne(name)
		w.holds(name)
	}
}

// some gives all sets of so many of these.
func some(of []int, count int) [][]int {
	if count == 0 {
		return [][]int{nil}
	}
	var sets [][]int
	for i, one := range of {
		for _, rest := range some(of[i+1:], count-1) {
			sets = append(sets, append([]int{one}, rest...))
		}
	}
	return sets
}

// majorities gives all sets of voters that are one.
func majorities(c api.Config) [][]int {
	var sets [][]int
	for count := c.Voters/2 + 1; count <= c.Voters; count++ {
		sets = append(sets, some(voters(c), count)...)
	}
	return sets
}

// minorities gives all sets of voters that are none, but the one without any.
func minorities(c api.Config) [][]int {
	var sets [][]int
	for count := 1; count <= c.Voters/2; count++ {
		sets = append(sets, some(voters(c), count)...)
	}
	return sets
}

// orders gives orders of the voters: all of them, or some if they are many.
func orders(c api.Config, r *rand.Rand) [][]int {
	ids := voters(c)
	if len(ids) == 3 {
		return [][]int{{100, 101, 102}, {100, 102, 101}, {101, 100, 102}, {101, 102, 100}, {102, 100, 101}, {102, 101, 100}}
	}
	var all [][]int
	for range 6 {
		order := slices.Clone(ids)
		r.Shuffle(len(order), func(i, j int) { order[i], order[j] = order[j], order[i] })
		all = append(all, order)
	}
	return all
}

// leave stops for good all voters but these.
func (w *world) leave(left []int) {
	for _, voter := range voters(w.c) {
		if !slices.Contains(left, voter) {
			delete(w.nodes, voter)
		}
	}
}

// Two clients leave out each another unit, by some of the voters. When one change
// is done, its unit is gone, and other voters are there: the other change, and a
// client that comes new, find out what was chosen.
func TestP13AChangeBehindAnother(t *testing.T) {
	r := rand.New(rand.NewSource(0))
	for _, c := range []api.Config{config(1, 2, 3, 1), config(2, 2, 5, 1)} {
		for _, reached := range majorities(c) {
			for _, left := range majorities(c) {
				for _, order := range orders(c, r) {
					for what := range 4 {
						w := newWorld(t, c, 2, 0)
						w.ranked(order)
						w.behindAnother(reached, left, what)
					}
				}
			}
		}
	}
}

// until has steps, and a Tick where they come to an end, until something holds.
func (w *world) until(passes func(letter) bool, holds func() bool) {
	w.t.Helper()
	for range 300 {
		if holds() {
			return
		}
		if w.step(passes) == 0 {
			w.tick()
		}
	}
	w.t.Fatal("it never holds")
}

func (w *world) tick() {
	for _, id := range w.those() {
		w.clients[id].Tick()
	}
}

func (w *world) behindAnother(reached, left []int, what int) {
	w.t.Helper()
	x := w.call(1000, aChange, 1, "")
	y := w.call(1001, aChange, 0, "")
	back := func() {}
	if what&1 != 0 {
		back = w.pause(1000)
	}
	w.until(only(append([]int{0, 1, 2, 3}, reached...)...), func() bool { return x.end != never || y.end != never })
	back()
	if x.end != never {
		x, y = y, x
	}
	w.expectChange(y, "done")
	delete(w.nodes, y.address)
	w.leave(left)
	w.reader(what&2 != 0)
	w.settle()
	w.expectChange(x, "refused")
	w.holds("behind another")
}

// reader has a client come new that reads, if there is to be one.
func (w *world) reader(comes bool) {
	w.t.Helper()
	if comes {
		w.join(1002)
		w.call(1002, aRead, 0, "")
	}
}

// acceptsOnly lets an Accept pass to these voters alone.
func acceptsOnly(reached []int) func(letter) bool {
	return func(l letter) bool {
		q, ok := packets.ReadRequest(l.p.Data)
		return !ok || q.Kind != packets.Accept || slices.Contains(reached, l.p.To)
	}
}

// votedFor tells whether these voters, and no others, have a vote in the epoch 1.
func (w *world) votedFor(reached []int) bool {
	w.t.Helper()
	for _, voter := range voters(w.c) {
		if (w.voteOf(voter, 1).Ballot > 0) != slices.Contains(reached, voter) {
			return false
		}
	}
	return true
}

// halfVoted has a client leave out a unit of the first chain, until these voters,
// and no others, have voted for it; then the client stops.
func (w *world) halfVoted(id, unit int, reached []int) (*made, func()) {
	w.t.Helper()
	m := w.call(id, aChange, unit, "")
	w.until(acceptsOnly(reached), func() bool { return w.votedFor(reached) })
	w.letters = nil
	return m, w.pause(id)
}

// Some voters, too few, have voted for a layout whose only unit is gone then. The
// change that leaves out this unit is done, and nobody is kept waiting.
func TestP13VotesForUnitsThatAreGone(t *testing.T) {
	r := rand.New(rand.NewSource(0))
	for _, c := range []api.Config{config(1, 2, 3, 1), config(2, 2, 5, 1)} {
		for _, reached := range minorities(c) {
			for _, order := range orders(c, r) {
				for what := range 4 {
					w := newWorld(t, c, 2, 0)
					w.ranked(order)
					w.votesForGone(reached, what)
				}
			}
		}
	}
}

func (w *world) votesForGone(reached []int, what int) {
	w.t.Helper()
	other, back := w.halfVoted(1001, 1, reached)
	delete(w.nodes, 0)
	m := w.call(1000, aChange, 0, "")
	w.reader(what&1 != 0)
	if what&2 != 0 {
		back()
	}
	w.settle()
	w.expectChange(m, "done")
	back()
	w.settle()
	w.expectChange(other, "refused")
	w.holds("votes")
}

// Then another layout is chosen, by the other voters; and of those only some are
// left. What was voted for before hinders nobody.
func TestP13OldVotesForUnitsThatAreGone(t *testing.T) {
	r := rand.New(rand.NewSource(0))
	for _, c := range []api.Config{config(1, 2, 3, 1), config(2, 2, 5, 1)} {
		for _, reached := range minorities(c) {
			for _, left := range majorities(c) {
				for i, order := range orders(c, r) {
					w := newWorld(t, c, 2, 0)
					w.ranked(order)
					w.oldVotes(reached, left, i%2 == 0)
				}
			}
		}
	}
}

func (w *world) oldVotes(reached, left []int, reads bool) {
	w.t.Helper()
	other, back := w.halfVoted(1001, 1, reached)
	m := w.call(1000, aChange, 0, "")
	passes := func(l letter) bool { return !slices.Contains(reached, l.from) && !slices.Contains(reached, l.p.To) }
	w.until(passes, func() bool { return m.end != never })
	w.expectChange(m, "done")
	delete(w.nodes, 0)
	w.leave(left)
	back()
	w.reader(reads)
	w.settle()
	w.expectChange(other, "refused")
	w.holds("old votes")
}

// A client has stopped for good, and the unit is gone that its change leaves out;
// as far as one voter that is there has voted for it, others end it.
func TestP13WhatAClientHasBegunThatStopped(t *testing.T) {
	r := rand.New(rand.NewSource(0))
	for _, c := range []api.Config{config(1, 2, 3, 1), config(2, 2, 5, 1)} {
		for _, reached := range minorities(c) {
			for _, left := range majorities(c) {
				knows := func(voter int) bool { return slices.Contains(reached, voter) }
				if !slices.ContainsFunc(left, knows) {
					continue
				}
				for i, order := range orders(c, r) {
					w := newWorld(t, c, 1, 0)
					w.join(1001)
					w.ranked(order)
					w.halfVoted(1001, 0, reached)
					delete(w.nodes, 0)
					w.leave(left)
					w.othersEnd(i%2 == 0)
				}
			}
		}
	}
}

func (w *world) othersEnd(reads bool) {
	w.t.Helper()
	w.reader(reads)
	if !reads {
		w.changes(1000, 1, "refused")
	}
	w.settle()
	w.holds("stopped")
}

// slow keeps what comes from a node until nothing else comes out.
func (w *world) slow(id int) {
	w.t.Helper()
	var kept []letter
	w.quiet(func(l letter) bool {
		if l.from == id {
			kept = append(kept, l)
		}
		return l.from != id
	})
	for _, m := range w.calls {
		w.expectChange(m, "pending")
	}
	for _, l := range kept {
		w.hand(l)
	}
	w.quiet(nil)
}

// The unit that a layout needs which was voted for tells that it is sealed only
// when the voters have promised. The move goes on then, without a Tick.
func TestP13SealsThatComeLate(t *testing.T) {
	w := newWorld(t, config(1, 2, 3, 1), 2, 0)
	w.halfVoted(1001, 1, []int{100})
	delete(w.nodes, 102)
	m := w.call(1000, aChange, 0, "")
	w.slow(0)
	w.expectChange(m, "refused")
}

// The only voter that knows what was begun tells it when the others have told that
// there is nothing, and the own layout of the client lacks a unit.
func TestP13VotesThatComeLate(t *testing.T) {
	w := newWorld(t, config(1, 2, 3, 1), 2, 0)
	w.halfVoted(1001, 0, []int{101})
	delete(w.nodes, 0)
	m := w.call(1000, aChange, 1, "")
	w.slow(101)
	w.expectChange(m, "refused")
}

// A client has been promised much, and was never voted for.
func TestP13HighBallots(t *testing.T) {
	w := newWorld(t, config(1, 2, 3, 1), 2, 0)
	w.call(1001, aChange, 1, "")
	for range 300 {
		w.tick()
		w.quiet(acceptsOnly(nil))
	}
	w.pause(1001)
	w.changes(1000, 0, "done")
	w.holds("ballots")
}

// A voter that has refused has not promised: it may have voted.
func TestP12VotersThatRefuse(t *testing.T) {
	w := newWorld(t, config(1, 2, 3, 1), 3, 0)
	first := w.call(1000, aChange, 1, "")
	late := w.call(1001, aChange, 0, "")
	later := w.call(1002, aChange, 0, "")
	held := map[[2]int]letter{}
	w.quiet(func(l letter) bool {
		q, ok := packets.ReadRequest(l.p.Data)
		if ok && q.Kind == packets.Prepare {
			held[[2]int{l.from, l.p.To}] = l
			return false
		}
		return true
	})
	prepare := func(id int, voters ...int) {
		for _, voter := range voters {
			w.hand(held[[2]int{id, voter}])
		}
		w.quiet(func(l letter) bool { return l.from != 1000 || l.p.To != 100 })
	}
	prepare(1000, 101, 102)
	w.expectChange(first, "done")
	prepare(1002, 101)
	prepare(1001, 100, 101)
	w.expectChange(late, "pending")
	w.settle()
	w.expectChange(late, "refused")
	w.expectChange(later, "refused")
	w.holds("refused")
}

// The first change of a client lacks a unit, the second one leaves this out. A
// client that goes on calling finds each time that a layout is begun, and may end
// it before the other one, by one that leaves out nothing. The change is not kept
// waiting for ever.
func TestP13OthersGoOnCalling(t *testing.T) {
	for _, order := range [][]int{{1000, 1001}, {1001, 1000}} {
		w := newWorld(t, config(2, 2, 3, 2), 2, 0)
		w.ranked(order)
		delete(w.nodes, 0)
		w.call(1001, aRead, 0, "")
		refused := w.call(1000, aChange, 1, "")
		done := w.call(1000, aChange, 0, "")
		for range 80 {
			w.tick()
			for range 30 {
				w.call(1001, aRead, 1, "")
				w.step(nil)
			}
		}
		w.expectChange(done, "done")
		w.expectChange(refused, "refused")
	}
}
