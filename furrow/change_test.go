package furrow_test

import (
	"math/rand"
	"slices"
	"strconv"
	"testing"

	"furrow/api"
	"furrow/furrow"
)

// changes has a client leave out a unit, and rounds until that has ended.
func (w *world) changes(id, unit int, want string) {
	w.t.Helper()
	m := w.call(id, aChange, unit, "")
	w.settle()
	w.expectChange(m, want)
}

func (w *world) expectChange(m *made, want string) {
	w.t.Helper()
	got := map[int]string{0: "pending", api.Done: "done", api.Refused: "refused"}[m.result.What]
	if got != want || m.result.Address != 0 || len(m.result.Value) != 0 {
		w.t.Errorf("the change of %d by %d ends with %+v, want %s", m.address, m.client, m.result, want)
	}
}

// holds holds all calls to one log, and the changes to one another.
func (w *world) holds(name string) {
	w.t.Helper()
	w.settle()
	w.readAll()
	if !w.isOneLog() {
		w.t.Fatalf("%s, %+v: this is not one log:\n%s", name, w.c, w.story())
	}
	w.changesHold(name)
}

// pause takes a client out of the world; it knows nothing of what others do.
func (w *world) pause(id int) func() {
	x := w.clients[id]
	delete(w.clients, id)
	return func() { w.clients[id] = x }
}

// only lets those letters pass that go to or come from these nodes.
func only(nodes ...int) func(letter) bool {
	return func(l letter) bool {
		return slices.Contains(nodes, l.from) || slices.Contains(nodes, l.p.To)
	}
}

func voters(c api.Config) []int {
	var ids []int
	for i := range c.Voters {
		ids = append(ids, api.FirstVoter+i)
	}
	return ids
}

// Each unit of each chain is left out, as long as there is another one, whether
// it is there or not.
func TestP9ChangeOfEachUnit(t *testing.T) {
	for _, c := range []api.Config{config(1, 2, 1, 2), config(2, 3, 3, 2), config(3, 3, 5, 1)} {
		for seed := range 40 {
			w := newWorld(t, c, 2, int64(seed))
			left := map[int]int{}
			for _, unit := range w.r.Perm(w.units()) {
				id := 1000 + w.r.Intn(2)
				chain := unit / c.Units
				if left[chain] == c.Units-1 {
					w.changes(id, unit, "refused")
					continue
				}
				left[chain]++
				if w.r.Intn(2) == 0 {
					delete(w.nodes, unit)
				}
				w.changes(id, unit, "done")
				w.changes(1000, unit, "done")
				w.changes(1001, unit, "done")
			}
			w.holds("seed " + strconv.Itoa(seed))
		}
	}
}

func TestP9ChangeOfNoUnit(t *testing.T) {
	w := newWorld(t, config(2, 2, 3, 3), 1, 0)
	w.changes(1000, 0, "done")
	for _, unit := range append(slices.Clone(extremes), 8, 9, 101, 102) {
		n, e := w.clients[1000].Change(unit)
		if unit < 0 || unit > 3 {
			called(t, "Change("+strconv.Itoa(unit)+")", n, e, 0, api.ErrUnit)
		}
	}
}

// Without a majority of the voters nothing is chosen, and nothing is told.
func TestP9ChangeWantsAMajority(t *testing.T) {
	for _, count := range []int{1, 3, 5} {
		c := config(1, 2, count, 2)
		w := newWorld(t, c, 2, 0)
		images := map[int][]byte{}
		for _, id := range voters(c)[count/2:] {
			images[id] = w.stop(id)
		}
		m := w.call(1000, aChange, 0, "")
		other := w.call(1001, aChange, 1, "")
		for range 90 {
			w.round()
		}
		w.expectChange(m, "pending")
		w.expectChange(other, "pending")
		w.open(voters(c)[count-1], images[voters(c)[count-1]])
		w.settle()
		if m.result.What == other.result.What {
			t.Errorf("with %d voters both changes end with %+v", count, m.result)
		}
		w.holds("voters")
	}
}

// Nor is anything chosen before a unit of each chain is sealed.
func TestP9ChangeWantsUnitsSealed(t *testing.T) {
	c := config(2, 2, 1, 2)
	w := newWorld(t, c, 1, 0)
	two, three := w.stop(2), w.stop(3)
	m := w.call(1000, aChange, 0, "")
	for range 10 {
		w.round()
	}
	w.expectChange(m, "pending")
	w.open(2, two)
	w.settle()
	w.expectChange(m, "done")
	w.open(3, three)
	w.holds("units")
}

// A client's changes are done in their order, if nothing hinders it.
func TestP9ChangesInTheirOrder(t *testing.T) {
	for seed := range 50 {
		w := newWorld(t, config(1, 3, 3, 2), 1, int64(seed))
		w.mixed = true
		order := w.r.Perm(3)
		for _, unit := range order {
			w.call(1000, aChange, unit, "")
		}
		w.round()
		w.expectChange(w.calls[0], "done")
		w.expectChange(w.calls[1], "done")
		w.expectChange(w.calls[2], "refused")
		w.holds("seed " + strconv.Itoa(seed))
	}
}

// The first change lacks a unit that the second one is to leave out.
func TestP13AChangeThatWaitsForAnother(t *testing.T) {
	for _, clients := range []int{1, 2} {
		w := newWorld(t, config(2, 2, 3, 2), clients, 0)
		delete(w.nodes, 0)
		first := w.call(1000, aChange, 1, "")
		second := w.call(999+clients, aChange, 0, "")
		w.call(1000, aRead, 0, "")
		w.settle()
		w.expectChange(first, "refused")
		w.expectChange(second, "done")
		w.holds("waits")
	}
}

// Of two clients that leave out the two units of a chain, one is refused, in
// whatever order and by whichever voters.
func TestP12RivalsAgree(t *testing.T) {
	for seed := range seeds(3000) {
		r := rand.New(rand.NewSource(int64(seed)))
		w := newTrouble(t, config(1, 2, 1+2*r.Intn(3), 1), 2+r.Intn(2), int64(seed))
		x := w.call(1000, aChange, 0, "")
		y := w.call(1001, aChange, 1, "")
		w.call(w.client(), aRead, 0, "")
		for range r.Intn(6) {
			w.split()
			for unit := range 2 {
				w.apart[[2]int{1000, unit}] = r.Intn(5) == 0
				w.apart[[2]int{1001, unit}] = r.Intn(5) == 0
			}
			w.clients[w.client()].Tick()
			w.quiet(w.passes)
			w.restart()
			w.late()
		}
		w.settle()
		if x.result.What == y.result.What {
			t.Fatalf("seed %d: both end with %+v", seed, x.result)
		}
		w.holds("seed " + strconv.Itoa(seed))
	}
}

// A client stops in the middle of a change: what it gave out arrives up to some
// letter. Others go on, whatever they know, and a unit can be left out still.
func TestP12ChangesThatStopInTheMiddle(t *testing.T) {
	for _, c := range []api.Config{config(1, 2, 1, 2), config(2, 2, 3, 2), config(1, 3, 5, 2)} {
		for out := range c.Units {
			ended := false
			for arrive := 0; !ended; arrive++ {
				w := newWorld(t, c, 3, int64(arrive))
				w.call(1001, anAppend, 0, "a")
				w.round()
				m := w.call(1000, aChange, out, "")
				count := 0
				w.quiet(func(l letter) bool {
					count++
					return count <= arrive
				})
				ended = m.end != never
				w.pause(1000)
				w.call(1001, aRead, 0, "")
				w.call(1002, anAppend, 0, "b")
				w.call(1002, aTrim, 1, "")
				w.settle()
				again := w.call(1002, aChange, out, "")
				if !ended || again.end == never {
					delete(w.nodes, out)
				}
				w.settle()
				w.expectChange(again, "done")
				w.holds("behind " + strconv.Itoa(arrive) + " letters")
			}
		}
	}
}

// A change was made by sealing only some of the units. A client that knows the
// old layout only, and the units that were not sealed, go on.
func TestP12OldLayouts(t *testing.T) {
	c := config(1, 3, 3, 2)
	for out := range c.Units {
		for sealed := 1; sealed < 1<<c.Units; sealed++ {
			for what := range 16 {
				w := newWorld(t, c, 2, int64(sealed))
				if what&1 != 0 {
					w.does(1000, aFill, 1, "junk")
				}
				reached := voters(c)
				for unit := range c.Units {
					if sealed&(1<<unit) != 0 {
						reached = append(reached, unit)
					}
				}
				old := w.pause(1000)
				m := w.call(1001, aChange, out, "")
				w.quiet(only(reached...))
				if m.end == never {
					continue // the unit itself was the only one that was sealed
				}
				w.begunByNew(what)
				old()
				w.begunByOld(what)
				w.holds("out " + strconv.Itoa(out) + ", sealed " + strconv.Itoa(sealed) + ", what " + strconv.Itoa(what))
			}
		}
	}
}

func (w *world) begunByNew(what int) {
	w.t.Helper()
	if what&2 != 0 {
		w.call(1001, anAppend, 0, "new")
		w.give(1001, 1, 0)
		w.quiet(nil)
	}
	if what&4 != 0 {
		w.does(1001, aTrim, 1, "done 0")
	}
}

func (w *world) begunByOld(what int) {
	w.t.Helper()
	w.call(1000, aRead, 0, "")
	if what&8 != 0 {
		w.quiet(nil)
	}
	m := w.call(1000, anAppend, 0, "old")
	w.give(1000, m.number, 0)
	w.call(1000, aFill, 0, "")
	w.quiet(nil)
	w.call(1000, aRead, 0, "")
	w.call(1000, aRead, 1, "")
	w.quiet(nil)
}

// A fill has met an append's value at a unit that is left out later, and goes on
// with a layout in which the append has gone elsewhere.
func TestP12FillForgetsWhatItMet(t *testing.T) {
	w := newWorld(t, config(1, 3, 1, 3), 5, 0)
	w.call(1000, anAppend, 0, "a")
	w.give(1000, 0, 0)
	w.quiet(only(0))
	w.call(1001, aFill, 0, "")
	w.quiet(only(0))
	fill := w.pause(1001)
	w.quiet(only(0))
	first := w.pause(1000)
	w.changes(1002, 0, "done")
	w.call(1003, anAppend, 0, "b")
	w.give(1003, 0, 0)
	w.clients[1003].Tick()
	w.quiet(func(l letter) bool { return l.p.To != 2 || l.from != 1003 })
	w.clients[1003].Tick()
	w.quiet(func(l letter) bool { return l.p.To != 2 || l.from != 1003 })
	w.pause(1003)
	first()
	w.had[0] = true
	w.settle()
	w.expectEnd(w.calls[0], "done 1")
	w.changes(1002, 1, "done")
	fill()
	w.settle()
	w.expectEnd(w.calls[1], "junk")
	w.holds("the fill")
}

// An append that began behind a trim has its value at a unit that is left out,
// and a late letter of a trim comes to that unit.
func TestP12AppendAtAUnitThatIsLeftOut(t *testing.T) {
	w := newWorld(t, config(1, 2, 1, 3), 3, 0)
	w.call(1000, aTrim, 1, "")
	w.gather(1000)
	late := w.letters
	w.letters = nil
	w.pause(1000)
	old := w.pause(1001)
	w.call(1002, aChange, 0, "")
	w.quiet(only(1, 100))
	w.does(1002, aTrim, 1, "done 0")
	old()
	m := w.call(1001, anAppend, 0, "a")
	w.give(1001, 0, 0)
	w.quiet(to(0))
	for _, l := range late {
		if l.p.To == 0 {
			w.hand(l)
		}
	}
	w.clients[1001].Tick()
	w.quiet(nil)
	w.expectEnd(m, "pending")
	if wants := w.clients[1001].Wants(); len(wants) != 1 {
		t.Errorf("Wants = %v", wants)
	}
	w.holds("the append")
}

// epochOf tells the epoch of a unit.
func (w *world) epochOf(unit int) int {
	w.t.Helper()
	k, e := furrow.OpenCells(w.c, unit, w.nodes[unit].Image())
	if e != api.OK {
		w.t.Fatalf("OpenCells = %d", e)
	}
	return k.Seal(-1).Epoch
}

// Again and again a change is begun, and its client stops; others go on. In the
// end many layouts were chosen, of which a client that comes new knows nothing.
func TestP13ManyLayouts(t *testing.T) {
	w := newWorld(t, config(1, 3, 3, 2), 1, 0)
	w.call(1000, anAppend, 0, "a")
	w.settle()
	old := w.pause(1000)
	for i := range 40 {
		stops, comes := 1001+2*i, 1002+2*i
		w.join(stops)
		w.call(stops, aChange, i%3, "")
		seals := false
		w.quiet(func(l letter) bool {
			seals = seals || l.from == stops && l.p.To < api.FirstVoter
			return l.p.To < api.FirstVoter || !seals
		})
		w.pause(stops)
		w.join(comes)
		w.call(comes, aRead, 0, "")
		w.settle()
		w.expectEnd(w.calls[len(w.calls)-1], "a")
		w.pause(comes)
	}
	if epoch := w.epochOf(1); epoch < 40 {
		t.Errorf("the epoch is %d only", epoch)
	}
	old()
	m := w.call(1000, aChange, 1, "")
	w.round()
	w.expectChange(m, "done")
	w.does(1000, aRead, 0, "a")
	w.holds("many")
}

// A hundred clients with all the calls they may have, changes among them: what
// goes out comes to an end, with units gone or letters lost; and all ends.
func TestP13Crowd(t *testing.T) {
	for seed := range 20 {
		c := config(1+seed%3, 2+seed/3%2, 1+2*(seed%3), 16)
		w := newTrouble(t, c, 100, int64(seed))
		for _, id := range w.those() {
			for range 7 {
				if w.r.Intn(5) == 0 {
					w.changeSome(id)
				} else {
					w.begin(id)
				}
			}
			w.tokens(id)
		}
		if seed%2 == 1 {
			w.loseSome()
		}
		odds := seed % 4
		lost := func(letter) bool { return w.r.Intn(8) >= odds }
		w.quiet(lost)
		for _, id := range w.those() {
			w.clients[id].Tick()
			for unit := range w.gone {
				w.call(id, aChange, unit, "")
			}
		}
		w.quiet(lost)
		w.settle()
	}
}

// Several clients leave out several units at the same time, which are all gone.
func TestP13UnitsGone(t *testing.T) {
	for seed := range seeds(400) {
		r := rand.New(rand.NewSource(int64(seed)))
		c := config(1+r.Intn(3), 2+r.Intn(2), 1+2*r.Intn(3), 4)
		w := newTrouble(t, c, 4, int64(seed))
		for _, id := range w.those() {
			w.begin(id)
		}
		w.round()
		for unit := range w.units() {
			if !w.kept[unit] {
				w.gone[unit] = true
				delete(w.nodes, unit)
				w.call(w.client(), aChange, unit, "")
			}
		}
		for _, id := range voters(c)[c.Voters/2+1:] {
			w.stop(id)
		}
		for _, id := range w.those() {
			w.begin(id)
		}
		w.settle()
		for _, m := range w.calls {
			if m.kind == aChange {
				w.expectChange(m, "done")
			}
		}
		w.ends("seed " + strconv.Itoa(seed))
	}
}

// With one client, changes end in their round too, and what else it calls for.
func TestP14ChangesEndInTheirRound(t *testing.T) {
	for seed := range seeds(600) {
		r := rand.New(rand.NewSource(int64(seed)))
		w := newWorld(t, wild(r), 1, int64(seed))
		x := w.clients[1000]
		for range 8 {
			for range r.Intn(5) {
				w.begin(1000)
			}
			for range r.Intn(4) {
				w.call(1000, aChange, r.Intn(w.units()), "")
			}
			x.Tick()
			for _, n := range x.Wants() {
				if r.Intn(3) > 0 {
					w.give(1000, n, r.Intn(w.addresses()))
				}
			}
			w.quiet(nil)
			if len(x.Wants()) != w.pending() {
				t.Fatalf("seed %d: %d calls are pending, and %v want a token", seed, w.pending(), x.Wants())
			}
		}
		w.holds("seed " + strconv.Itoa(seed))
	}
}

func TestP14AppendsEndAtTheirTokensWithChanges(t *testing.T) {
	for _, c := range []api.Config{config(1, 3, 1, 16), config(3, 3, 5, 4), config(2, 2, 3, 5)} {
		w := newWorld(t, c, 1, 0)
		for k := range w.addresses() {
			m := w.call(1000, anAppend, 0, strconv.Itoa(k))
			w.call(1000, aChange, k%w.units(), "")
			w.round()
			w.expectEnd(m, "done "+strconv.Itoa(k))
		}
		for k := range w.addresses() {
			w.does(1000, aRead, k, strconv.Itoa(k))
		}
	}
}
