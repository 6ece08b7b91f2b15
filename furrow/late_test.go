package furrow_test

import (
	"strconv"
	"testing"

	"furrow/api"
	"furrow/packets"
)

// often: if each of so many packets had an answer of its own, these would go on
// going out for more than 300 steps.
const often = 300*api.MaxOut + 1

// flood hands letters in again and again, before anybody gives out.
func (w *world) flood(letters []letter) {
	w.t.Helper()
	for i := 0; i < often && len(letters) > 0; i++ {
		w.hand(letters[i%len(letters)])
	}
}

func toNode(node int, letters []letter) []letter {
	var its []letter
	for _, l := range letters {
		if l.p.To == node {
			its = append(its, l)
		}
	}
	return its
}

// beginEach begins a call of each kind, all at a unit of the first chain.
func (w *world) beginEach(id int) {
	w.t.Helper()
	m := w.call(id, anAppend, 0, "a"+strconv.Itoa(id))
	w.give(id, m.number, w.fresh())
	w.call(id, aRead, 0, "")
	w.call(id, aFill, 0, "")
	w.call(id, aTrim, 1, "")
	w.call(id, aChange, 1, "")
}

// One packet of each kind of call was doubled very often. With one client and
// nothing lost all ends in the first round.
func TestP13DoubledOften(t *testing.T) {
	for kind := anAppend; kind <= aChange; kind++ {
		for _, node := range []int{0, api.FirstVoter} {
			w := newWorld(t, config(1, 2, 1, 3), 1, 0)
			m := w.call(1000, kind, 1, "a")
			if kind == anAppend {
				w.give(1000, m.number, 1)
			}
			w.gather(1000)
			w.flood(toNode(node, w.letters))
			w.letters = nil
			w.round()
			if w.pending() != 0 {
				t.Errorf("doubled to %d: a call of the kind %d is pending", node, kind)
			}
		}
	}
}

// Whatever a change asks, step by step, is doubled very often. It must not lose by
// it what it was told first: a promise is given once.
func TestP13EachStepOfAChangeIsDoubledOften(t *testing.T) {
	for _, node := range []int{0, api.FirstVoter} {
		w := newWorld(t, config(1, 2, 1, 1), 1, 0)
		m := w.call(1000, aChange, 1, "")
		w.quiet(func(l letter) bool {
			if l.p.To == node {
				w.flood([]letter{l})
			}
			return true
		})
		w.expectChange(m, "done")
	}
}

// Nothing is doubled, but the client is ticked again and again, and everybody gets
// all of it before giving out. Behind that, calls end in their round, as ever.
func TestP13AskedVeryOften(t *testing.T) {
	w := newWorld(t, config(1, 2, 1, 4), 1, 0)
	w.beginEach(1000)
	for range often {
		w.clients[1000].Tick()
		for _, p := range w.clients[1000].Out() {
			w.nodes[p.To].Receive(1000, p.Data)
		}
	}
	w.call(1000, aFill, 3, "")
	m := w.call(1000, anAppend, 0, "b")
	w.give(1000, m.number, 2)
	w.round()
	if w.pending() != 0 {
		t.Errorf("%d calls are pending:\n%s", w.pending(), w.story())
	}
	w.expectEnd(m, "done 2")
	w.holds("asked very often")
}

// All that clients have sent while many of their calls have ended comes once more,
// very late. What they call for now ends nevertheless.
func TestP13LateLettersOfManyCalls(t *testing.T) {
	for seed := range 6 {
		w := newTrouble(t, config(1+seed%2, 2, 1+2*(seed%3), 3), 3, int64(seed))
		var old []letter
		for range 60 {
			for _, id := range w.those() {
				if w.call(id, aRead, w.r.Intn(w.addresses()), "") == nil || w.r.Intn(10) == 0 {
					w.changeSome(id)
				}
				w.clients[id].Tick()
			}
			w.quiet(func(l letter) bool {
				if l.p.To < api.FirstClient {
					old = append(old, l)
				}
				return w.r.Intn(6) > 0
			})
		}
		w.r.Shuffle(len(old), func(i, j int) { old[i], old[j] = old[j], old[i] })
		for _, id := range w.those() {
			w.begin(id)
		}
		w.flood(toNode(w.ids[seed%len(w.ids)], old))
		for _, l := range old {
			w.hand(l)
		}
		w.quiet(nil)
		w.ends("seed " + strconv.Itoa(seed))
	}
}

// A hundred clients with all the calls they may have: the nodes have got all of it,
// many times over, and in any order, before they give out.
func TestP13ACrowdThatAsksVeryOften(t *testing.T) {
	for seed := range seeds(20) {
		c := config(1+seed%3, 2+seed%2, 1+2*(seed/3%3), 16)
		w := newTrouble(t, c, 100, int64(seed))
		for _, id := range w.those() {
			for range api.MaxCalls {
				if w.r.Intn(5) == 0 {
					w.changeSome(id)
				} else {
					w.begin(id)
				}
			}
		}
		for range 10 {
			for _, id := range w.those() {
				w.clients[id].Tick()
				w.tokens(id)
				w.gather(id)
			}
			for range len(w.letters) {
				w.hand(w.letters[w.r.Intn(len(w.letters))])
			}
		}
		w.letters = nil
		if seed%2 == 1 {
			w.quiet(func(letter) bool { return w.r.Intn(3) > 0 })
		}
		w.settle()
	}
}

// prepareOf tells whether a letter has this client ask for a promise.
func prepareOf(id int, l letter) bool {
	q, ok := packets.ReadRequest(l.p.Data)
	return ok && l.from == id && q.Kind == packets.Prepare
}

// One client begins changes again and again, but never comes to have a promise;
// another one ends each time what was begun. So there come to be very many epochs. A
// client that knows of none must not go through them one by one, whether it reaches
// units or not.
func TestP11ManyEpochs(t *testing.T) {
	for _, units := range []bool{true, false} {
		for _, ticked := range []bool{true, false} {
			w := newWorld(t, config(1, 2, 3, 1), 2, 0)
			w.call(1000, aChange, 0, "")
			for w.epochOf(0) < 400 {
				w.call(1001, aRead, 0, "")
				w.tick()
				w.quiet(func(l letter) bool { return !prepareOf(1000, l) })
			}
			w.join(1002)
			m := w.call(1002, aChange, 0, "")
			if ticked {
				w.clients[1002].Tick()
			}
			w.quiet(func(l letter) bool {
				isUnits := l.from < api.FirstVoter || l.p.To < api.FirstVoter
				return !prepareOf(1000, l) && (units || !isUnits)
			})
			if units {
				w.expectChange(m, "done")
			} else {
				w.expectChange(m, "pending")
			}
			w.settle()
			w.expectChange(m, "done")
		}
	}
}
