package furrow_test

import (
	"bytes"
	"math"
	"math/rand"
	"slices"
	"strconv"
	"testing"

	"furrow/api"
	"furrow/furrow"
)

func TestP9ErrArg(t *testing.T) {
	for _, c := range settings() {
		for _, id := range append(slices.Clone(extremes), 998, 999, 1001, 1050, 1098, 1100, 1101) {
			x, e := furrow.NewClient(c, id)
			if may := mayBe(c) && id >= 1000 && id <= 1099; may != (x != nil) || may != (e == api.OK) || !may && e != api.ErrArg {
				t.Errorf("NewClient(%v, %d) = %v, %d", c, id, x, e)
			}
		}
	}
}

// called holds a call's answer to the error it should have, or to the number.
func called(t *testing.T, what string, n int, e api.Errno, wantNumber int, want api.Errno) {
	t.Helper()
	if want != api.OK {
		wantNumber = 0
	}
	if n != wantNumber || e != want {
		t.Errorf("%s = %d, %d, want %d, %d", what, n, e, wantNumber, want)
	}
}

func TestP9CallsAndTheirErrors(t *testing.T) {
	for _, c := range []api.Config{config(1, 1, 1, 1), config(2, 2, 3, 3), config(3, 3, 5, 16)} {
		last := c.Chains*c.Cells - 1
		for _, a := range append(slices.Clone(extremes), last-1, last, last+1, last+2) {
			w := newWorld(t, c, 1, 0)
			x := w.clients[1000]
			next := 0
			try := func(what string, n int, e api.Errno, want api.Errno) {
				t.Helper()
				called(t, what+"("+strconv.Itoa(a)+")", n, e, next, want)
				if e == api.OK {
					next++
				}
			}
			address, mark, unit := api.ErrAddress, api.ErrAddress, api.ErrUnit
			if a >= 0 && a <= last {
				address = api.OK
			}
			if a >= 0 && a <= last+1 {
				mark = api.OK
			}
			if a >= 0 && a < c.Chains*c.Units {
				unit = api.OK
			}
			n, e := x.Read(a)
			try("Read", n, e, address)
			n, e = x.Fill(a)
			try("Fill", n, e, address)
			n, e = x.Trim(a)
			try("Trim", n, e, mark)
			n, e = x.Change(a)
			try("Change", n, e, unit)
		}
		x := newClient(t, c, 1099)
		next := 0
		for size := range 20 {
			want := api.ErrArg
			if size >= 1 && size <= 8 {
				want = api.OK
			}
			n, e := x.Append(make([]byte, size))
			called(t, "Append of "+strconv.Itoa(size)+" bytes", n, e, next, want)
			if want == api.OK {
				next++
			}
		}
	}
}

// With eight pending calls there is ErrCall; the errors named ahead of it come
// first, and nothing has changed.
func TestP9EightCallsArePending(t *testing.T) {
	w := newWorld(t, config(2, 2, 3, 3), 1, 0)
	x := w.clients[1000]
	for i := range 8 {
		var n int
		var e api.Errno
		switch i % 4 {
		case 0:
			n, e = x.Append([]byte("a"))
		case 1:
			n, e = x.Read(i % 6)
		case 2:
			n, e = x.Fill(i % 6)
		case 3:
			n, e = x.Trim(i % 6)
		}
		called(t, "call", n, e, i, api.OK)
	}
	full := func(append, address, unit api.Errno) {
		t.Helper()
		n, e := x.Append([]byte("a"))
		called(t, "Append", n, e, 0, append)
		n, e = x.Read(0)
		called(t, "Read", n, e, 0, address)
		n, e = x.Fill(0)
		called(t, "Fill", n, e, 0, address)
		n, e = x.Trim(0)
		called(t, "Trim", n, e, 0, address)
		n, e = x.Change(0)
		called(t, "Change", n, e, 0, unit)
	}
	full(api.ErrCall, api.ErrCall, api.ErrCall)
	n, e := x.Append(nil)
	called(t, "Append of nothing", n, e, 0, api.ErrArg)
	n, e = x.Read(6)
	called(t, "Read(6)", n, e, 0, api.ErrAddress)
	n, e = x.Fill(-1)
	called(t, "Fill(-1)", n, e, 0, api.ErrAddress)
	n, e = x.Trim(7)
	called(t, "Trim(7)", n, e, 0, api.ErrAddress)
	n, e = x.Change(4)
	called(t, "Change(4)", n, e, 0, api.ErrUnit)
	if wants := x.Wants(); !slices.Equal(wants, []int{0, 4}) {
		t.Errorf("Wants = %v", wants)
	}
	if r, e := x.Result(8); e != api.ErrCall || r.What != 0 {
		t.Errorf("Result(8) = %+v, %d", r, e)
	}
	x.Give(4, -1)
	n, e = x.Read(0)
	called(t, "Read behind an end", n, e, 8, api.OK)
	full(api.ErrCall, api.ErrCall, api.ErrCall)
	w.quiet(nil)
	for i := range 7 {
		n, e = x.Read(0)
		called(t, "Read behind many", n, e, 9+i, api.OK)
	}
	full(api.ErrCall, api.ErrCall, api.ErrCall)
}

func TestP9ResultsOfCalls(t *testing.T) {
	w := newWorld(t, config(1, 2, 1, 4), 1, 0)
	x := w.clients[1000]
	for _, n := range extremes {
		if r, e := x.Result(n); e != api.ErrCall || r.What != 0 || r.Address != 0 || len(r.Value) != 0 {
			t.Errorf("Result(%d) = %+v, %d", n, r, e)
		}
	}
	pending := func(n int) {
		t.Helper()
		if r, e := x.Result(n); e != api.OK || r.What != 0 || r.Address != 0 || len(r.Value) != 0 {
			t.Errorf("Result(%d) = %+v, %d", n, r, e)
		}
	}
	ends := func(n int, want api.Result) {
		t.Helper()
		for range 2 {
			r, e := x.Result(n)
			if e != api.OK || r.What != want.What || r.Address != want.Address || !bytes.Equal(r.Value, want.Value) {
				t.Errorf("Result(%d) = %+v, %d, want %+v", n, r, e, want)
			}
		}
	}
	value := []byte{0, 255, 1, 2, 3, 4, 5, 0}
	x.Append(value)
	pending(0)
	x.Give(0, 2)
	pending(0)
	w.quiet(nil)
	x.Read(2)
	x.Fill(2)
	x.Read(1)
	pending(1)
	w.quiet(nil)
	x.Fill(3)
	w.quiet(nil)
	x.Read(3)
	x.Fill(3)
	x.Trim(0)
	w.quiet(nil)
	x.Trim(3)
	pending(8)
	w.quiet(nil)
	x.Fill(2)
	x.Read(0)
	x.Append(value)
	x.Give(11, 4)
	w.quiet(nil)
	w.round()
	ends(0, api.Result{What: api.Done, Address: 2})
	ends(1, api.Result{What: api.Data, Value: value})
	ends(2, api.Result{What: api.Data, Value: value})
	ends(3, api.Result{What: api.Empty})
	ends(4, api.Result{What: api.Junk})
	ends(5, api.Result{What: api.Junk})
	ends(6, api.Result{What: api.Junk})
	ends(7, api.Result{What: api.Done})
	ends(8, api.Result{What: api.Done})
	ends(9, api.Result{What: api.Trimmed})
	ends(10, api.Result{What: api.Trimmed})
	ends(11, api.Result{What: api.Full})
}

// A unit that is alone in its chain can't be left out.
func TestP9ChangeOfTheLast(t *testing.T) {
	w := newWorld(t, config(2, 1, 3, 3), 1, 0)
	x := w.clients[1000]
	n, e := x.Change(1)
	called(t, "Change(1)", n, e, 0, api.OK)
	w.round()
	if r, e := x.Result(0); e != api.OK || r.What != api.Refused || r.Address != 0 || len(r.Value) != 0 {
		t.Errorf("Result = %+v, %d", r, e)
	}
}

func TestP10Tokens(t *testing.T) {
	w := newWorld(t, config(2, 2, 1, 2), 2, 0)
	x := w.clients[1000]
	wants := func(want ...int) {
		t.Helper()
		if got := x.Wants(); !slices.Equal(got, want) {
			t.Errorf("Wants = %v, want %v", got, want)
		}
	}
	gives := func(call, token int, want api.Errno) {
		t.Helper()
		if e := x.Give(call, token); e != want {
			t.Errorf("Give(%d, %d) = %d, want %d", call, token, e, want)
		}
	}
	wants()
	for _, n := range extremes {
		gives(n, 0, api.ErrCall)
	}
	x.Append([]byte("a"))
	x.Read(0)
	x.Append([]byte("b"))
	x.Append([]byte("c"))
	wants(0, 2, 3)
	gives(1, 0, api.ErrCall)
	gives(4, 0, api.ErrCall)
	gives(2, 1, api.OK)
	wants(0, 3)
	gives(2, 2, api.ErrCall)
	gives(3, 1, api.OK)
	w.quiet(nil)
	wants(0, 3)
	gives(2, 0, api.ErrCall)
	gives(3, 1, api.OK)
	wants(0)
	w.quiet(nil)
	wants(0, 3)
	if r, _ := x.Result(3); r.What != 0 {
		t.Errorf("Result(3) = %+v", r)
	}
	w.does(1001, aTrim, 1, "done 0")
	gives(3, 0, api.OK)
	w.quiet(nil)
	wants(0, 3)
	w.does(1001, aFill, 2, "junk")
	gives(3, 2, api.OK)
	w.quiet(nil)
	wants(0, 3)
	gives(3, 3, api.OK)
	w.quiet(nil)
	wants(0)
	if r, _ := x.Result(3); r.What != api.Done || r.Address != 3 {
		t.Errorf("Result(3) = %+v", r)
	}
	w.does(1001, aRead, 1, "b")
	w.does(1001, aRead, 3, "c")
}

func TestP10TokensThatAreNoAddress(t *testing.T) {
	c := config(2, 2, 1, 2)
	for _, token := range extremes {
		x := newClient(t, c, 1000)
		x.Append([]byte("a"))
		if e := x.Give(0, token); e != api.OK {
			t.Errorf("Give(0, %d) = %d", token, e)
		}
		want := 0
		if token < 0 || token >= 4 {
			want = api.Full
		}
		if r, e := x.Result(0); e != api.OK || r.What != want || r.Address != 0 || len(x.Wants()) != 0 {
			t.Errorf("with the token %d: %+v, %d, Wants %v", token, r, e, x.Wants())
		}
		if e := x.Give(0, 0); e != api.ErrCall {
			t.Errorf("Give behind the token %d = %d", token, e)
		}
	}
}

// has tells whether all these packets are among the others.
func has(all, some []api.Packet) bool {
	return !slices.ContainsFunc(some, func(p api.Packet) bool {
		return !slices.ContainsFunc(all, func(q api.Packet) bool { return p.To == q.To && bytes.Equal(p.Data, q.Data) })
	})
}

// At a Tick there may be asked more than was asked before, but of each node at
// most once more.
func TestP11AskedAgainAtATickOnly(t *testing.T) {
	w := newWorld(t, config(2, 2, 1, 3), 1, 0)
	x := w.clients[1000]
	w.call(1000, aTrim, 3, "")
	w.call(1000, aRead, 4, "")
	w.call(1000, aFill, 5, "")
	w.call(1000, anAppend, 0, "a")
	first := x.Out()
	if len(first) != 7 {
		t.Errorf("%d packets come out first", len(first))
	}
	for range 3 {
		if out := x.Out(); len(out) != 0 {
			t.Errorf("without a Tick %v comes out", out)
		}
		x.Tick()
		x.Tick()
		if out := x.Out(); !has(out, first) || len(out) > 7+4 {
			t.Errorf("behind a Tick %v comes out, want %v", out, first)
		}
	}
	for _, p := range first[:3] {
		w.hand(letter{1000, p})
	}
	w.quiet(to(1000))
	x.Tick()
	if out := x.Out(); !has(out, first[3:]) || has(out, first[:1]) || has(out, first[1:2]) || has(out, first[2:3]) {
		t.Errorf("of those that were not answered %v comes out, want %v", out, first[3:])
	}
	x.Tick()
	w.quiet(nil)
	if w.pending() != 1 {
		t.Errorf("%d calls are pending", w.pending())
	}
	x.Tick()
	if out := x.Out(); len(out) != 0 {
		t.Errorf("of what was answered %v comes out", out)
	}
}

func TestP11AChangeIsAskedForAgain(t *testing.T) {
	for lost := range 40 {
		w := newWorld(t, config(1, 2, 3, 2), 1, 0)
		m := w.call(1000, aChange, 1, "")
		count := 0
		w.quiet(func(letter) bool {
			count++
			return count < lost
		})
		for range 3 {
			if out := w.clients[1000].Out(); len(out) != 0 {
				t.Errorf("without a Tick %v comes out", out)
			}
		}
		w.round()
		w.round()
		w.expectChange(m, "done")
	}
}

// A hundred clients with all the calls they may have: what goes out comes to an
// end, whatever is lost and whoever has stopped.
func TestP11WithoutATickItComesToAnEnd(t *testing.T) {
	for seed := range 12 {
		w := newWorld(t, config(1+seed%3, 1+seed/3%3, 1, 16), 100, int64(seed))
		for _, id := range w.those() {
			for range 8 {
				w.begin(id)
			}
			for range 3 {
				w.tokens(id)
			}
		}
		if seed%2 == 1 {
			w.stop(w.r.Intn(w.c.Chains * w.c.Units))
		}
		odds := seed % 4
		w.quiet(func(letter) bool { return w.r.Intn(8) >= odds })
		for _, id := range w.those() {
			w.clients[id].Tick()
		}
		w.quiet(func(letter) bool { return w.r.Intn(8) >= odds })
	}
}

func TestP11WhatIsNoPacketDoesNothing(t *testing.T) {
	w := newWorld(t, config(2, 2, 1, 3), 2, 0)
	for _, kind := range []int{aTrim, aRead, aFill} {
		w.call(1000, kind, 3, "")
	}
	w.call(1000, anAppend, 0, "a")
	w.give(1000, 3, 4)
	w.call(1000, aChange, 2, "")
	w.quiet(func(l letter) bool {
		if l.p.To == 1000 {
			for _, data := range no(l.p.Data) {
				w.hand(letter{l.from, api.Packet{To: 1000, Data: data}})
			}
			for _, from := range append(slices.Clone(extremes), 1001, 1099, 101) {
				if from < 0 || from > 3 && from != api.FirstVoter {
					w.hand(letter{from, l.p})
				}
			}
		}
		return l.p.To != 1000
	})
	if w.pending() != 5 {
		t.Errorf("%d calls are pending:\n%s", w.pending(), w.story())
	}
	w.round()
	if w.pending() != 0 {
		t.Errorf("%d calls are pending behind a round", w.pending())
	}
}

// Clients that get spoilt packets: what they tell may be wrong then, but every
// call ends, and what goes out does.
func TestP1ClientsAtAllBytes(t *testing.T) {
	for seed := range 200 {
		r := rand.New(rand.NewSource(int64(seed)))
		w := newWorld(t, wild(r), 3, int64(seed))
		for range 10 {
			for _, id := range w.those() {
				x := w.clients[id]
				n := extremes[r.Intn(len(extremes))]
				x.Append(make([]byte, r.Intn(12)))
				x.Read(n)
				x.Fill(n)
				x.Trim(n)
				x.Change(n)
				x.Give(r.Intn(8), n)
				x.Give(r.Intn(8), r.Intn(w.addresses()))
				x.Result(n)
				x.Tick()
			}
			w.quiet(func(l letter) bool {
				l.p.Data = spoilt(r, l.p.Data)
				w.hand(l)
				return r.Intn(2) == 0
			})
		}
	}
}

func TestP2ClientsKeepAndShareNothing(t *testing.T) {
	w := newWorld(t, config(1, 2, 1, 4), 1, 0)
	x := w.clients[1000]
	value := append(make([]byte, 0, 8), "abc"...)
	n, _ := x.Append(value)
	if string(value) != "abc" || !bytes.Equal(value[3:8], make([]byte, 5)) {
		t.Errorf("the value has become %v", value[:8])
	}
	fill(value)
	x.Append([]byte("other"))
	wants := x.Wants()
	fill(wants)
	if got := x.Wants(); !slices.Equal(got, []int{0, 1}) {
		t.Errorf("Wants = %v", got)
	}
	x.Give(n, 0)
	for range 2 {
		for _, p := range x.Out() {
			fill(p.Data)
		}
		x.Tick()
	}
	w.quiet(nil)
	read, _ := x.Read(0)
	for range 6 {
		for _, id := range w.all() {
			w.gather(id)
		}
		for _, l := range w.letters {
			data := append(make([]byte, 0, len(l.p.Data)+8), l.p.Data...)
			w.hand(letter{l.from, api.Packet{To: l.p.To, Data: data}})
			if !bytes.Equal(data, l.p.Data) || !bytes.Equal(data[len(data):cap(data)], make([]byte, 8)) {
				t.Error("a packet was written into")
			}
			fill(data)
		}
		w.letters = nil
	}
	for range 2 {
		r, _ := x.Result(read)
		if string(r.Value) != "abc" {
			t.Errorf("Result = %+v", r)
		}
		fill(r.Value)
	}
}

func TestP2ClientsKnowNothingOfOneAnother(t *testing.T) {
	c := config(1, 1, 1, 2)
	x, y := newClient(t, c, 1000), newClient(t, c, 1001)
	x.Append([]byte("a"))
	x.Read(0)
	if n, e := y.Read(1); n != 0 || e != api.OK || len(y.Wants()) != 0 || len(y.Out()) != 1 {
		t.Errorf("the other client begins with %d, %d", n, e)
	}
	if _, e := y.Result(1); e != api.ErrCall {
		t.Errorf("Result(1) = %d", e)
	}
}

func TestP10AnyTokenOfAnyCall(t *testing.T) {
	x := newClient(t, config(3, 3, 5, 16), 1000)
	for _, n := range append(slices.Clone(extremes), math.MaxInt, math.MinInt) {
		for _, token := range extremes {
			if e := x.Give(n, token); e != api.ErrCall {
				t.Errorf("Give(%d, %d) = %d", n, token, e)
			}
		}
	}
}
