package furrow_test

import (
	"math/rand"
	"strconv"
	"testing"

	"furrow/api"
)

// trouble is a world in which units are left out, and some are gone for good.
type trouble struct {
	*world
	kept  map[int]bool    // one unit of each chain: that stays, and nobody leaves it out
	gone  map[int]bool    // for good
	apart map[[2]int]bool // clients and nodes that don't reach each other
	held  []letter        // what is late
}

func newTrouble(t *testing.T, c api.Config, clients int, seed int64) *trouble {
	t.Helper()
	w := &trouble{newWorld(t, c, clients, seed), map[int]bool{}, map[int]bool{}, map[[2]int]bool{}, nil}
	w.mixed = seed%2 == 1
	for chain := range c.Chains {
		w.kept[chain*c.Units+w.r.Intn(c.Units)] = true
	}
	return w
}

func (w *trouble) client() int {
	ids := w.those()
	return ids[w.r.Intn(len(ids))]
}

// changeSome begins to leave out some unit that need not stay.
func (w *trouble) changeSome(id int) {
	w.t.Helper()
	if unit := w.r.Intn(w.units()); !w.kept[unit] {
		w.call(id, aChange, unit, "")
	}
}

// loseSome stops for good some unit that need not stay.
func (w *trouble) loseSome() {
	if unit := w.r.Intn(w.units()); !w.kept[unit] {
		w.gone[unit] = true
		delete(w.nodes, unit)
	}
}

func (w *trouble) reach(l letter) bool {
	return !w.apart[[2]int{l.from, l.p.To}] && !w.apart[[2]int{l.p.To, l.from}]
}

// disturb lets one thing happen, of all that P12 says may happen.
func (w *trouble) disturb(most int) {
	w.t.Helper()
	switch n := w.r.Intn(200); {
	case n < 6 && len(w.calls) < most:
		w.changeSome(w.client())
	case n == 6:
		w.loseSome()
	case n < 12:
		pair := [2]int{w.client(), w.ids[w.r.Intn(len(w.ids))]}
		w.apart[pair] = !w.apart[pair]
	case n < 40:
		var rest []letter
		for _, l := range w.letters {
			if w.reach(l) {
				rest = append(rest, l)
			}
		}
		w.letters = rest
	default:
		w.stir(most)
	}
}

// split draws who reaches whom, for a while.
func (w *trouble) split() {
	odds := 2 + w.r.Intn(8)
	w.apart = map[[2]int]bool{}
	for _, id := range w.those() {
		for _, node := range w.ids {
			if w.r.Intn(10) >= odds {
				w.apart[[2]int{id, node}] = true
			}
		}
	}
}

// passes tells whether a letter arrives; some are late, or arrive twice.
func (w *trouble) passes(l letter) bool {
	if !w.reach(l) {
		return false
	}
	if w.r.Intn(12) == 0 {
		w.held = append(w.held, l)
		return w.r.Intn(2) == 0
	}
	return true
}

// while has some rounds in which those that reach each other go on, and others
// go on with what they know.
func (w *trouble) while(most int) {
	w.t.Helper()
	w.split()
	for range 1 + w.r.Intn(4) {
		for _, id := range w.those() {
			if w.r.Intn(3) == 0 {
				continue
			}
			if len(w.calls) < most && w.r.Intn(2) == 0 {
				w.begin(id)
			}
			if len(w.calls) < most && w.r.Intn(6) == 0 {
				w.changeSome(id)
			}
			w.tokens(id)
			w.tokens(id)
			if w.r.Intn(4) > 0 {
				w.clients[id].Tick()
			}
		}
		w.quiet(w.passes)
	}
}

// between lets nodes and clients stop, and late letters arrive.
func (w *trouble) between() {
	w.t.Helper()
	if w.r.Intn(3) == 0 {
		w.restart()
	}
	if w.r.Intn(12) == 0 {
		w.loseSome()
	}
	if len(w.clients) > 2 && w.r.Intn(12) == 0 {
		delete(w.clients, w.client())
	}
	w.late()
}

// late hands in some of the late letters.
func (w *trouble) late() {
	w.t.Helper()
	for range w.r.Intn(len(w.held) + 1) {
		i := w.r.Intn(len(w.held))
		w.hand(w.held[i])
		w.held = append(w.held[:i:i], w.held[i+1:]...)
	}
}

// ends has somebody leave out the units that are gone, and then all must end, as
// on one log.
func (w *trouble) ends(name string) {
	w.t.Helper()
	w.join(1090)
	for unit := range w.units() {
		if w.gone[unit] {
			w.call(1090, aChange, unit, "")
		}
	}
	w.settle()
	for _, l := range w.held {
		w.hand(l)
	}
	w.quiet(nil)
	w.readAll()
	if !w.isOneLog() {
		w.t.Fatalf("%s, %+v: this is not one log:\n%s", name, w.c, w.story())
	}
	w.changesHold(name)
}

// changesHold holds how changes ended to one another, and to what a client is
// told that comes new.
func (w *world) changesHold(name string) {
	w.t.Helper()
	ended := map[int]int{}
	called := map[int]bool{}
	for _, m := range w.calls {
		if m.kind != aChange {
			continue
		}
		called[m.address] = true
		if m.end == never {
			continue
		}
		if what := ended[m.address]; what != 0 && what != m.result.What || m.result.What != api.Done && m.result.What != api.Refused {
			w.t.Fatalf("%s: a change ends with %d, another one with %d:\n%s", name, m.result.What, what, w.story())
		}
		ended[m.address] = m.result.What
	}
	w.join(1098)
	for unit := range w.units() {
		if ended[unit] != 0 {
			m := w.call(1098, aChange, unit, "")
			w.settle()
			if m.result.What != ended[unit] {
				w.t.Fatalf("%s: a change of %d ends with %d, one before ended with %d", name, unit, m.result.What, ended[unit])
			}
		}
		if ended[unit] == api.Refused {
			w.isLast(name, unit, called)
		}
	}
	for chain := range w.c.Chains {
		left := 0
		for unit := range w.c.Units {
			if ended[chain*w.c.Units+unit] != api.Done {
				left++
			}
		}
		if left == 0 {
			w.t.Fatalf("%s: all units of chain %d are left out", name, chain)
		}
	}
}

// isLast: who is the last of its chain is so because others were left out, which
// somebody must have asked for.
func (w *world) isLast(name string, unit int, called map[int]bool) {
	w.t.Helper()
	first := unit / w.c.Units * w.c.Units
	for other := first; other < first+w.c.Units; other++ {
		if other != unit && !called[other] {
			w.t.Fatalf("%s: %d is told to be the last, and nobody has left out %d", name, unit, other)
		}
	}
}

func seeds(all int) int {
	if testing.Short() {
		return all / 10
	}
	return all
}

func TestP12WithChangesWhateverHappens(t *testing.T) {
	for seed := range seeds(2500) {
		r := rand.New(rand.NewSource(int64(seed)))
		w := newTrouble(t, wild(r), 2+r.Intn(3), int64(seed))
		most := 6 + r.Intn(20)
		for range 100 + r.Intn(1200) {
			w.disturb(most)
		}
		w.ends("seed " + strconv.Itoa(seed))
	}
}

// Clients that reach some of the units and voters alone go on with what they
// know; who reaches whom changes, and units are gone.
func TestP12WhoReachesWhom(t *testing.T) {
	for seed := range seeds(6000) {
		r := rand.New(rand.NewSource(int64(seed)))
		c := config(1+r.Intn(2), 1+r.Intn(3), 1+2*r.Intn(3), 1+r.Intn(3))
		w := newTrouble(t, c, 2+r.Intn(4), int64(seed))
		most := 8 + r.Intn(24)
		for range 4 + r.Intn(8) {
			w.while(most)
			w.between()
		}
		w.ends("seed " + strconv.Itoa(seed))
	}
}

// All units may be left out, as far as they are not the last ones. None is gone
// for good.
func TestP12AnyUnitMayBeLeftOut(t *testing.T) {
	for seed := range seeds(2500) {
		r := rand.New(rand.NewSource(int64(seed)))
		c := config(1+r.Intn(3), 2+r.Intn(2), 1+2*r.Intn(3), 1+r.Intn(2))
		w := newTrouble(t, c, 2+r.Intn(4), int64(seed))
		w.kept = map[int]bool{}
		most := 8 + r.Intn(24)
		for range 3 + r.Intn(6) {
			w.while(most)
			w.restart()
			w.changeSome(w.client())
		}
		w.ends("seed " + strconv.Itoa(seed))
	}
}
