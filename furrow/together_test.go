package furrow_test

import (
	"math/rand"
	"strconv"
	"testing"

	"furrow/api"
)

// wild are settings with few addresses, so that calls meet each other.
func wild(r *rand.Rand) api.Config {
	return config(1+r.Intn(3), 1+r.Intn(3), 1+2*r.Intn(3), 1+r.Intn(3))
}

// stir lets one thing happen, of all that P12 says may happen.
func (w *world) stir(most int) {
	w.t.Helper()
	clients := w.those()
	switch n := w.r.Intn(100); {
	case n < 10 && len(w.calls) < most:
		w.begin(clients[w.r.Intn(len(clients))])
	case n < 18:
		w.tokens(clients[w.r.Intn(len(clients))])
	case n < 24:
		w.clients[clients[w.r.Intn(len(clients))]].Tick()
	case n < 50:
		all := w.all()
		w.gather(all[w.r.Intn(len(all))])
	case n < 90:
		w.carry()
	case n < 93:
		w.restart()
	case n < 95:
		all := w.all()
		w.hand(letter{all[w.r.Intn(len(all))], api.Packet{To: all[w.r.Intn(len(all))], Data: make([]byte, w.r.Intn(4))}})
	case n == 95 && len(clients) > 2 && w.r.Intn(3) == 0:
		delete(w.clients, clients[w.r.Intn(len(clients))])
	}
}

// begin begins some call at an address that others are at, too.
func (w *world) begin(id int) {
	w.t.Helper()
	address := w.r.Intn(w.addresses())
	switch w.r.Intn(8) {
	case 0, 1, 2:
		w.call(id, anAppend, 0, "v"+strconv.Itoa(len(w.calls)))
	case 3, 4:
		w.call(id, aRead, address, "")
	case 5, 6:
		w.call(id, aFill, address, "")
	case 7:
		w.call(id, aTrim, w.r.Intn(w.addresses()+1), "")
	}
}

// tokens gives one to one of the calls that want one, whatever others had.
func (w *world) tokens(id int) {
	w.t.Helper()
	wants := w.clients[id].Wants()
	if len(wants) == 0 {
		return
	}
	token := w.r.Intn(w.addresses())
	if w.r.Intn(30) == 0 {
		token = []int{-1, w.addresses(), 1 << 62}[w.r.Intn(3)]
	}
	w.give(id, wants[w.r.Intn(len(wants))], token)
}

// carry takes any of the letters: it arrives, stays as well, or is lost.
func (w *world) carry() {
	w.t.Helper()
	if len(w.letters) == 0 {
		return
	}
	i := w.r.Intn(len(w.letters))
	l := w.letters[i]
	fate := w.r.Intn(10)
	if fate != 0 {
		w.letters = append(w.letters[:i:i], w.letters[i+1:]...)
	}
	if fate != 1 {
		w.hand(l)
	}
}

// restart opens a node anew; at times only later, so that it isn't there.
func (w *world) restart() {
	w.t.Helper()
	id := w.ids[w.r.Intn(len(w.ids))]
	if w.nodes[id] == nil {
		return
	}
	image := w.stop(id)
	if w.r.Intn(2) == 0 {
		w.gather(w.those()[0])
		w.carry()
		w.carry()
	}
	w.open(id, image)
}

func TestP12WhateverHappensItIsOneLog(t *testing.T) {
	runs := 3000
	if testing.Short() {
		runs = 300
	}
	for seed := range runs {
		r := rand.New(rand.NewSource(int64(seed)))
		w := newWorld(t, wild(r), 2+r.Intn(3), int64(seed))
		most := 6 + r.Intn(20)
		for range 100 + r.Intn(500) {
			w.stir(most)
		}
		w.settle()
		w.readAll()
		if !w.isOneLog() {
			t.Fatalf("seed %d, %+v: this is not one log:\n%s", seed, w.c, w.story())
		}
	}
}

// Ticks while much is lost: whoever is asked twice must not do twice.
func TestP12LostInRounds(t *testing.T) {
	for seed := range 500 {
		r := rand.New(rand.NewSource(int64(seed)))
		w := newWorld(t, wild(r), 3, int64(seed))
		for range 12 {
			for _, id := range w.those() {
				w.begin(id)
				w.tokens(id)
				w.clients[id].Tick()
			}
			w.quiet(func(letter) bool { return r.Intn(3) > 0 })
		}
		w.settle()
		w.readAll()
		if !w.isOneLog() {
			t.Fatalf("seed %d, %+v: this is not one log:\n%s", seed, w.c, w.story())
		}
	}
}

func to(ids ...int) func(letter) bool {
	return func(l letter) bool {
		for _, id := range ids {
			if l.p.To == id {
				return true
			}
		}
		return false
	}
}

func (w *world) expectEnd(m *made, want string) {
	w.t.Helper()
	got := "pending"
	switch m.result.What {
	case api.Done:
		got = "done " + strconv.Itoa(m.result.Address)
	case api.Data:
		got = string(m.result.Value)
	case api.Junk:
		got = "junk"
	case api.Empty:
		got = "empty"
	case api.Trimmed:
		got = "trimmed"
	case api.Full:
		got = "full"
	}
	if got != want {
		w.t.Errorf("call %d of %d ends with %s, want %s", m.number, m.client, got, want)
	}
}

// now does a call and has a round, in which it ends.
func (w *world) does(id, kind, address int, want string) {
	w.t.Helper()
	m := w.call(id, kind, address, "")
	w.clients[id].Tick()
	w.quiet(nil)
	w.expectEnd(m, want)
}

// An append that has reached the first unit is brought to its end by a fill, is
// read and trimmed; then the append is told.
func TestP12AppendThatOthersEndedIsNotDoneAnew(t *testing.T) {
	for _, units := range []int{2, 3} {
		w := newWorld(t, config(1, units, 1, 4), 1, 0)
		m := w.call(1000, anAppend, 0, "a")
		w.give(1000, 0, 0)
		w.quiet(to(0))
		w.expectEnd(m, "pending")
		slow := w.clients[1000]
		delete(w.clients, 1000)
		w.join(1001)
		w.does(1001, aFill, 0, "a")
		w.does(1001, aRead, 0, "a")
		w.does(1001, aTrim, 2, "done 0")
		w.clients[1000] = slow
		w.round()
		w.expectEnd(m, "done 0")
		w.does(1001, aRead, 2, "empty")
	}
}

func TestP12AppendOnlyHalfOfItTrimmed(t *testing.T) {
	w := newWorld(t, config(1, 3, 1, 4), 2, 0)
	m := w.call(1000, anAppend, 0, "a")
	w.give(1000, 0, 0)
	w.quiet(to(0, 1000))
	w.does(1001, aTrim, 1, "done 0")
	w.settle()
	if m.result.What != api.Done {
		t.Errorf("the append ends with %+v", m.result)
	}
	w.readAll()
	if !w.isOneLog() {
		t.Errorf("this is not one log:\n%s", w.story())
	}
}

// A fill's junk has reached the last unit and was read; the fill knows nothing of
// it when all is trimmed. Nobody else could have made the junk.
func TestP12FillThatWasSeenTellsJunk(t *testing.T) {
	w := newWorld(t, config(1, 2, 1, 4), 2, 0)
	m := w.call(1000, aFill, 0, "")
	answers := 0
	w.quiet(func(l letter) bool {
		if l.p.To == 1000 {
			answers++
		}
		return l.p.To != 1000 || answers == 1
	})
	w.expectEnd(m, "pending")
	w.call(1001, aRead, 0, "")
	w.call(1001, aTrim, 1, "")
	w.quiet(nil)
	w.settle()
	w.expectEnd(w.calls[1], "junk")
	w.expectEnd(m, "junk")
	if !w.isOneLog() {
		t.Errorf("this is not one log:\n%s", w.story())
	}
}

// A trim has reached some units only, and its client is gone. As soon as somebody
// was told that an address is trimmed, all below are.
func TestP12TrimIsDoneAtOneMoment(t *testing.T) {
	c := config(3, 2, 1, 2)
	for reached := range c.Chains * c.Units {
		for _, kind := range []int{aRead, aFill} {
			for first := range 6 {
				w := newWorld(t, c, 3, 0)
				for address := range 6 {
					w.call(1001, anAppend, 0, "v"+strconv.Itoa(address))
				}
				w.settle()
				w.call(1000, aTrim, 6, "")
				w.quiet(to(reached))
				delete(w.clients, 1000)
				m := w.call(1001, kind, first, "")
				w.round()
				for address := range 6 {
					w.call(1002, aRead, address, "")
				}
				w.settle()
				if !w.isOneLog() {
					t.Fatalf("reached %d, asked %d first (%+v): this is not one log:\n%s", reached, first, m.result, w.story())
				}
			}
		}
	}
}

// The mark that somebody meets is laid as it was called for: no address between
// is left out.
func TestP12TrimIsHelpedAsAWhole(t *testing.T) {
	w := newWorld(t, config(2, 1, 1, 3), 2, 0)
	w.call(1000, aTrim, 5, "")
	w.quiet(to(0))
	delete(w.clients, 1000)
	w.does(1001, aRead, 0, "trimmed")
	for address := range 5 {
		w.does(1001, aRead, address, "trimmed")
	}
	w.does(1001, aRead, 5, "empty")
}

// Of an append that only some units have heard of, all are told the same from
// the first one on that is told of it.
func TestP12HalfAnAppend(t *testing.T) {
	for reached := range 3 {
		w := newWorld(t, config(1, 3, 1, 4), 2, 0)
		w.call(1000, anAppend, 0, "a")
		w.give(1000, 0, 0)
		w.quiet(func(l letter) bool { return l.p.To != reached })
		delete(w.clients, 1000)
		w.call(1001, aRead, 0, "")
		w.round()
		m := w.call(1001, anAppend, 0, "b")
		w.give(1001, m.number, 0)
		w.quiet(nil)
		w.call(1001, aFill, 0, "")
		w.round()
		w.call(1001, aRead, 0, "")
		w.settle()
		if !w.isOneLog() {
			t.Errorf("without %d, this is not one log:\n%s", reached, w.story())
		}
	}
}

// Old letters arrive when all is over.
func TestP12LateLetters(t *testing.T) {
	for seed := range 300 {
		r := rand.New(rand.NewSource(int64(seed)))
		w := newWorld(t, wild(r), 3, int64(seed))
		var old []letter
		for range 8 {
			for _, id := range w.those() {
				w.begin(id)
				w.tokens(id)
				w.clients[id].Tick()
			}
			w.quiet(func(l letter) bool {
				old = append(old, l)
				return r.Intn(4) > 0
			})
			for range len(old) / 2 {
				w.hand(old[r.Intn(len(old))])
			}
		}
		w.settle()
		for _, i := range r.Perm(len(old)) {
			w.hand(old[i])
		}
		w.letters = nil
		w.quiet(nil)
		w.readAll()
		if !w.isOneLog() {
			t.Fatalf("seed %d, %+v: this is not one log:\n%s", seed, w.c, w.story())
		}
	}
}

func TestP14Example(t *testing.T) {
	for _, c := range []api.Config{config(1, 1, 1, 2), config(3, 3, 5, 16)} {
		w := newWorld(t, c, 1, 0)
		x := w.clients[1000]
		n, e := x.Append([]byte("a"))
		if wants := x.Wants(); n != 0 || e != api.OK || len(wants) != 1 || wants[0] != 0 {
			t.Fatalf("Append = %d, %d; Wants = %v", n, e, wants)
		}
		if e := x.Give(0, 0); e != api.OK {
			t.Fatalf("Give = %d", e)
		}
		w.round()
		if r, e := x.Result(0); e != api.OK || r.What != api.Done || r.Address != 0 || len(r.Value) != 0 {
			t.Errorf("the append ends with %+v, %d", r, e)
		}
		w.does(1000, aRead, 0, "a")
		w.does(1000, aRead, 1, "empty")
		w.does(1000, aFill, 1, "junk")
		w.does(1000, aTrim, 1, "done 0")
		w.does(1000, aRead, 0, "trimmed")
		w.does(1000, aRead, 1, "junk")
	}
}

func TestP14AppendsEndAtTheirTokens(t *testing.T) {
	for _, c := range settings() {
		if !mayBe(c) {
			continue
		}
		w := newWorld(t, c, 1, 0)
		for k := range w.addresses() + 2 {
			if w.call(1000, anAppend, 0, strconv.Itoa(k)) == nil {
				w.round()
				w.call(1000, anAppend, 0, strconv.Itoa(k))
			}
		}
		w.round()
		for k, m := range w.calls {
			want := "done " + strconv.Itoa(k)
			if k >= w.addresses() {
				want = "full"
			}
			w.expectEnd(m, want)
		}
		for k := range w.addresses() {
			w.does(1000, aRead, k, strconv.Itoa(k))
		}
	}
}

// Several calls at a time, of one client: behind a round each has ended, or
// wants a token; and all is as on one log.
func TestP14EachCallEndsInItsRound(t *testing.T) {
	for seed := range 600 {
		r := rand.New(rand.NewSource(int64(seed)))
		w := newWorld(t, wild(r), 1, int64(seed))
		x := w.clients[1000]
		for range 10 {
			for range r.Intn(5) {
				w.begin(1000)
			}
			x.Tick()
			for _, n := range x.Wants() {
				if r.Intn(3) > 0 {
					w.give(1000, n, r.Intn(w.addresses()))
				}
			}
			w.quiet(nil)
			if len(x.Wants()) != w.pending() {
				t.Fatalf("seed %d: %d calls are pending, and %v want a token", seed, w.pending(), x.Wants())
			}
		}
		w.readAll()
		if !w.isOneLog() {
			t.Fatalf("seed %d, %+v: this is not one log:\n%s", seed, w.c, w.story())
		}
	}
}

// One call at a time has only one way to end.
func TestP14OneCallAtATime(t *testing.T) {
	for seed := range 300 {
		r := rand.New(rand.NewSource(int64(seed)))
		w := newWorld(t, wild(r), 1, int64(seed))
		log := oneLog{contents: make([]string, w.addresses())}
		for i := range 30 {
			address := r.Intn(w.addresses())
			switch kind := r.Intn(4); kind {
			case anAppend:
				m := w.call(1000, anAppend, 0, strconv.Itoa(i))
				w.give(1000, m.number, address)
				w.quiet(nil)
				want := "pending"
				if may, _ := log.do(entry{kind: anAppend, address: address, value: strconv.Itoa(i)}); may {
					want = "done " + strconv.Itoa(address)
				}
				w.expectEnd(m, want)
				if want == "pending" {
					w.give(1000, m.number, -1)
					w.expectEnd(m, "full")
				}
			case aTrim:
				w.does(1000, aTrim, address+1, "done 0")
				log.do(entry{kind: aTrim, address: address + 1})
			default:
				want := tellsNow(&log, kind, address)
				w.does(1000, kind, address, want)
			}
		}
	}
}

// tellsNow does a read or a fill, and says what it tells.
func tellsNow(log *oneLog, kind, address int) string {
	log.do(entry{kind: kind, address: address, end: never})
	switch content := log.contents[address]; {
	case address < log.mark:
		return "trimmed"
	case content == "":
		return "empty"
	case content == "junk":
		return "junk"
	default:
		return content[len("data "):]
	}
}

// A client of stopped nodes goes on when they are there again.
func TestP12NodesThatComeBack(t *testing.T) {
	w := newWorld(t, config(2, 2, 3, 3), 1, 0)
	images := map[int][]byte{}
	for _, id := range w.ids {
		images[id] = w.stop(id)
	}
	w.call(1000, anAppend, 0, "a")
	w.call(1000, aFill, 3, "")
	w.call(1000, aTrim, 2, "")
	w.round()
	w.round()
	if w.pending() != 3 {
		t.Fatalf("%d calls are pending, with no nodes", w.pending())
	}
	for id, image := range images {
		w.open(id, image)
	}
	w.settle()
	w.readAll()
	if !w.isOneLog() {
		t.Errorf("this is not one log:\n%s", w.story())
	}
}

// Two clients with the same tokens share out the addresses.
func TestP12SameTokens(t *testing.T) {
	w := newWorld(t, config(2, 2, 1, 4), 2, 0)
	for i := range 4 {
		w.call(1000, anAppend, 0, "a"+strconv.Itoa(i))
		w.call(1001, anAppend, 0, "b"+strconv.Itoa(i))
	}
	for token := range 8 {
		for _, id := range w.those() {
			for _, n := range w.clients[id].Wants() {
				w.give(id, n, token)
			}
		}
		w.quiet(nil)
	}
	at := map[int]bool{}
	for _, m := range w.calls {
		if m.result.What != api.Done || at[m.result.Address] {
			t.Errorf("append %s ends with %+v", m.value, m.result)
		}
		at[m.result.Address] = true
	}
	w.readAll()
	if !w.isOneLog() {
		t.Errorf("this is not one log:\n%s", w.story())
	}
}
