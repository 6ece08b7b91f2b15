package furrow_test

import (
	"bytes"
	"math"
	"math/rand"
	"slices"
	"testing"

	"furrow/api"
	"furrow/furrow"
)

func TestP8ErrArg(t *testing.T) {
	for _, c := range settings() {
		for _, id := range append(slices.Clone(extremes), 8, 9, 101, 102, 103, 104, 106) {
			unit := id >= 0 && id < 9 && id < c.Chains*c.Units
			voter := id >= 100 && id < 105 && id < 100+c.Voters
			may := mayBe(c) && (unit || voter)
			n, e := furrow.OpenNode(c, id, nil)
			if may && (n == nil || e != api.OK || len(n.Image()) != 0 || len(n.Out()) != 0) || !may && (n != nil || e != api.ErrArg) {
				t.Errorf("OpenNode(%v, %d) = %v, %d", c, id, n, e)
			}
			n, e = furrow.OpenNode(c, id, []byte{200})
			if may && (n == nil) != (e == api.ErrImage) || !may && (n != nil || e != api.ErrArg) {
				t.Errorf("OpenNode(%v, %d) of no image = %v, %d", c, id, n, e)
			}
		}
	}
}

// traffic gives what clients sent to the nodes, in its order.
func traffic(t *testing.T, seed int64) (*world, []letter) {
	t.Helper()
	w := newWorld(t, config(2, 2, 3, 3), 3, seed)
	var sent []letter
	for range 12 {
		for _, id := range w.those() {
			w.begin(id)
			w.tokens(id)
			if w.r.Intn(6) == 0 {
				w.call(id, aChange, w.r.Intn(w.units()), "")
			}
			w.clients[id].Tick()
		}
		w.quiet(func(l letter) bool {
			if l.p.To < api.FirstClient {
				sent = append(sent, l)
			}
			return true
		})
	}
	return w, sent
}

func samePackets(a, b []api.Packet) bool {
	return slices.EqualFunc(a, b, func(p, q api.Packet) bool { return p.To == q.To && bytes.Equal(p.Data, q.Data) })
}

// A node of an image that was cut goes on as one that the same packets have come
// to, but the last ones.
func TestP8NodesGoOnFromTheirImages(t *testing.T) {
	for seed := range 20 {
		w, sent := traffic(t, int64(seed))
		for _, id := range w.ids {
			var mine []letter
			for _, l := range sent {
				if l.p.To == id {
					mine = append(mine, l)
				}
			}
			cut := 0
			if len(mine) > 0 {
				cut = w.r.Intn(len(mine))
			}
			n := openNode(t, w.c, id, nil)
			for _, l := range mine[:cut] {
				n.Receive(l.from, l.p.Data)
			}
			n.Out()
			for size := len(n.Image()); size <= len(w.nodes[id].Image()); size++ {
				goesOn(t, w, id, w.nodes[id].Image()[:size], mine)
			}
		}
	}
}

func goesOn(t *testing.T, w *world, id int, image []byte, sent []letter) {
	t.Helper()
	got := openNode(t, w.c, id, image)
	want := openNode(t, w.c, id, nil)
	rest := sent
	for len(rest) > 0 {
		ahead := openNode(t, w.c, id, want.Image())
		ahead.Receive(rest[0].from, rest[0].p.Data)
		if len(ahead.Image()) > len(image) {
			break
		}
		want.Receive(rest[0].from, rest[0].p.Data)
		want.Out()
		rest = rest[1:]
	}
	if !bytes.Equal(got.Image(), want.Image()) {
		t.Fatalf("node %d of %d bytes has the image %v, want %v", id, len(image), got.Image(), want.Image())
	}
	for _, l := range append(slices.Clone(rest), sent...) {
		got.Receive(l.from, l.p.Data)
		want.Receive(l.from, l.p.Data)
		if a, b := got.Out(), want.Out(); !samePackets(a, b) {
			t.Fatalf("node %d of %d bytes answers %v, want %v", id, len(image), a, b)
		}
	}
}

func TestP8ImagesGrowOnly(t *testing.T) {
	w, sent := traffic(t, 1)
	for _, id := range w.ids {
		n := openNode(t, w.c, id, nil)
		var before []byte
		for i, l := range sent {
			if l.p.To != id {
				continue
			}
			n.Receive(l.from, l.p.Data)
			if i%3 == 0 {
				n.Out()
			}
			if image := n.Image(); !bytes.HasPrefix(image, before) {
				t.Fatalf("node %d: behind %v comes %v", id, before, image)
			}
			before = n.Image()
			if i%5 == 0 {
				n = openNode(t, w.c, id, before)
			}
		}
	}
}

// no gives bytes that are no packets, made from one that is: cut short, with
// bytes behind it, and others.
func no(packet []byte) [][]byte {
	all := [][]byte{nil, {}, {0}, {1, 2, 3}, {1, 7, 0}, {0, 0, 0, 0}, bytes.Repeat([]byte{255}, 1000), make([]byte, 59)}
	for size := range packet {
		all = append(all, packet[:size])
	}
	return append(all, append(bytes.Clone(packet), 0), append(bytes.Clone(packet), packet...))
}

func TestP8WhatIsNoPacketDoesNothing(t *testing.T) {
	w, sent := traffic(t, 2)
	for _, id := range w.ids {
		n := w.nodes[id]
		n.Out()
		image := n.Image()
		for _, l := range sent[:40] {
			for _, data := range no(l.p.Data) {
				n.Receive(l.from, data)
			}
		}
		if out := n.Out(); len(out) != 0 || !bytes.Equal(n.Image(), image) {
			t.Errorf("node %d gives out %v, its image has become %v", id, out, n.Image())
		}
	}
}

func TestP8PacketsAreNotGivenAgain(t *testing.T) {
	c := config(1, 1, 1, 5)
	n := openNode(t, c, 0, nil)
	x := newClient(t, c, 1000)
	for address := range 5 {
		x.Read(address)
	}
	for _, p := range x.Out() {
		for i := range 90 {
			n.Receive(1000+i, p.Data)
		}
	}
	given := map[int]int{}
	for _, want := range []int{200, 200, 50, 0, 0} {
		out := n.Out()
		if len(out) != want {
			t.Errorf("%d packets come out, want %d", len(out), want)
		}
		for _, p := range out {
			given[p.To]++
			if p.To < 1000 || p.To > 1089 || given[p.To] > 5 || len(p.Data) < 4 {
				t.Fatalf("%v comes out", p)
			}
		}
	}
}

// Nodes with any image, which get any packets.
func TestP1NodesAtAllBytes(t *testing.T) {
	r := rand.New(rand.NewSource(4))
	w, sent := traffic(t, 4)
	for range 3000 {
		id := w.ids[r.Intn(len(w.ids))]
		image := w.nodes[w.ids[r.Intn(len(w.ids))]].Image()
		for range r.Intn(4) {
			if len(image) > 0 {
				image[r.Intn(len(image))] = byte(r.Intn(256))
			}
		}
		n, e := furrow.OpenNode(w.c, id, image)
		if (n == nil) != (e == api.ErrImage) || n != nil && e != api.OK {
			t.Fatalf("OpenNode(%d, %v) = %v, %d", id, image, n, e)
		}
		if n == nil {
			continue
		}
		for range 10 {
			n.Receive(extremes[r.Intn(len(extremes))], spoilt(r, sent[r.Intn(len(sent))].p.Data))
		}
		if out := n.Out(); len(out) > 10 {
			t.Errorf("to ten packets there are %d answers", len(out))
		}
		if _, e := furrow.OpenNode(w.c, id, n.Image()); e != api.OK {
			t.Errorf("the image %v of the node %d can't be opened: %d", n.Image(), id, e)
		}
	}
}

// spoilt changes some bytes of a packet; numbers come to be very great, too.
func spoilt(r *rand.Rand, packet []byte) []byte {
	packet = bytes.Clone(packet)
	for range r.Intn(3) {
		packet[r.Intn(len(packet))] ^= 1 << r.Intn(8)
	}
	if at := 3 + 8*r.Intn(8); r.Intn(3) == 0 && at+8 <= len(packet) {
		n := uint64(extremes[r.Intn(len(extremes))])
		for i := range 8 {
			packet[at+i] = byte(n >> (56 - 8*i))
		}
	}
	return packet
}

func TestP2NodesKeepAndShareNothing(t *testing.T) {
	w, sent := traffic(t, 5)
	for _, id := range w.ids {
		n, m := openNode(t, w.c, id, nil), openNode(t, w.c, id, nil)
		for _, l := range sent {
			if l.p.To != id {
				continue
			}
			data := make([]byte, len(l.p.Data), len(l.p.Data)+8)
			copy(data, l.p.Data)
			n.Receive(l.from, data)
			if !bytes.Equal(data, l.p.Data) || !bytes.Equal(data[len(data):cap(data)], make([]byte, 8)) {
				t.Fatalf("node %d has written into a packet", id)
			}
			fill(data)
			m.Receive(l.from, l.p.Data)
			a, b := n.Out(), m.Out()
			if !samePackets(a, b) {
				t.Fatalf("node %d answers %v, want %v", id, a, b)
			}
			for _, p := range a {
				fill(p.Data)
			}
			fill(n.Image())
		}
		image := n.Image()
		opened := openNode(t, w.c, id, image)
		fill(image)
		if !bytes.Equal(n.Image(), m.Image()) || !bytes.Equal(opened.Image(), m.Image()) {
			t.Errorf("the image of the node %d has become another one", id)
		}
	}
}

func TestP8AnyNumberGoes(t *testing.T) {
	n := openNode(t, config(1, 1, 1, 1), 0, nil)
	for _, from := range append(slices.Clone(extremes), math.MaxInt, math.MinInt) {
		n.Receive(from, nil)
		n.Receive(from, []byte{1, 2, 3, 4})
	}
	if out := n.Out(); len(out) != 0 {
		t.Errorf("%v comes out", out)
	}
}
