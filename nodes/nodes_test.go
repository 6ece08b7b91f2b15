package nodes_test

import (
	"bytes"
	"math/rand"
	"reflect"
	"testing"

	"furrow/api"
	"furrow/cells"
	"furrow/nodes"
	"furrow/packets"
	"furrow/votes"
)

var settings = api.Config{Chains: 2, Units: 2, Voters: 3, Cells: 3}

const client = 1007

func open(t *testing.T, id int, image []byte) *nodes.Node {
	t.Helper()
	n, e := nodes.Open(settings, id, image)
	if n == nil || e != api.OK {
		t.Fatalf("Open(%d, %v) = %v, %d", id, image, n, e)
	}
	return n
}

// requests are for units and for voters, with numbers that meet each other.
func requests(r *rand.Rand, count int) []packets.Request {
	kinds := []int{packets.Seal, packets.Write, packets.Read, packets.Trim, packets.Prepare, packets.Accept, packets.Recall}
	var all []packets.Request
	for i := range count {
		q := packets.Request{Kind: kinds[r.Intn(len(kinds))], Line: r.Intn(packets.Lines), Number: i * 3, Epoch: r.Intn(3) + i/30, Place: r.Intn(9) - 1}
		if q.Kind == packets.Write || q.Kind == packets.Accept {
			q.Content = api.Content{Kind: api.Data, Client: r.Intn(5), Call: r.Intn(5), Value: make([]byte, r.Intn(4))}
			r.Read(q.Content.Value)
		}
		if q.Kind == packets.Write && r.Intn(2) == 0 {
			q.Content.Kind, q.Content.Value = api.Junk, nil
		}
		all = append(all, q)
	}
	return all
}

// ask hands a request in, and gives what comes out.
func ask(n *nodes.Node, q packets.Request) []api.Packet {
	n.Receive(client, q.Bytes())
	return n.Out()
}

func asCells(k *cells.Cells, q packets.Request) (api.Reply, bool) {
	switch q.Kind {
	case packets.Seal:
		return k.Seal(q.Epoch), true
	case packets.Write:
		return k.Write(q.Epoch, q.Place, q.Content), true
	case packets.Read:
		return k.Read(q.Epoch, q.Place), true
	case packets.Trim:
		return k.Trim(q.Epoch, q.Place), true
	}
	return api.Reply{}, false
}

func asVoter(v *votes.Voter, q packets.Request) (api.Vote, bool) {
	switch q.Kind {
	case packets.Prepare:
		return v.Prepare(q.Epoch, q.Place), true
	case packets.Accept:
		return v.Accept(q.Epoch, q.Place, q.Content.Value), true
	case packets.Recall:
		return v.Recall(q.Epoch), true
	}
	return api.Vote{}, false
}

func TestP8UnitsAnswerAsTheirCells(t *testing.T) {
	r := rand.New(rand.NewSource(1))
	for id := range settings.Chains * settings.Units {
		n := open(t, id, nil)
		k, _ := cells.Open(settings, id, nil)
		for _, q := range requests(r, 400) {
			want, asked := asCells(k, q)
			out := ask(n, q)
			if asked != (len(out) == 1) || len(out) > 1 {
				t.Fatalf("unit %d: to %+v there are %d answers", id, q, len(out))
			}
			if asked && (out[0].To != client || !bytes.Equal(out[0].Data, packets.ReplyBytes(q.Number, want))) {
				t.Errorf("unit %d: to %+v it answers %+v, want %+v", id, q, out[0], want)
			}
			if !bytes.Equal(n.Image(), k.Image()) {
				t.Fatalf("unit %d: behind %+v its image is %v, want %v", id, q, n.Image(), k.Image())
			}
		}
	}
}

func TestP8VotersAnswerAsVoters(t *testing.T) {
	r := rand.New(rand.NewSource(2))
	for id := 100; id < 103; id++ {
		n := open(t, id, nil)
		v, _ := votes.Open(nil)
		for _, q := range requests(r, 400) {
			want, asked := asVoter(v, q)
			out := ask(n, q)
			if asked != (len(out) == 1) || len(out) > 1 {
				t.Fatalf("voter %d: to %+v there are %d answers", id, q, len(out))
			}
			if asked && (out[0].To != client || !bytes.Equal(out[0].Data, packets.VoteBytes(q.Number, v.Latest(), want))) {
				t.Errorf("voter %d: to %+v it answers %+v, want %+v", id, q, out[0], want)
			}
			if !bytes.Equal(n.Image(), v.Image()) {
				t.Fatalf("voter %d: behind %+v its image is %v, want %v", id, q, n.Image(), v.Image())
			}
		}
	}
}

// Behind each request an answer has gone out up to some point; from there on the
// image may be cut anywhere, and what is left is a node to which the last ones
// never came.
func TestP8OpenedFromACutImageItGoesOn(t *testing.T) {
	r := rand.New(rand.NewSource(3))
	for range 60 {
		for _, id := range []int{0, 3, 100, 102} {
			asked := requests(r, 40)
			given := r.Intn(len(asked))
			n := open(t, id, nil)
			for _, q := range asked[:given] {
				n.Receive(client, q.Bytes())
			}
			n.Out()
			least := len(n.Image())
			for _, q := range asked[given:] {
				n.Receive(client, q.Bytes())
			}
			whole := n.Image()
			for size := least; size <= len(whole); size++ {
				goesOn(t, id, whole[:size], asked, given)
			}
		}
	}
}

// goesOn holds the node of an image to one that has the same image, and that was
// asked as many of the requests.
func goesOn(t *testing.T, id int, image []byte, asked []packets.Request, least int) {
	t.Helper()
	want := open(t, id, nil)
	for i, q := range asked {
		ahead := open(t, id, want.Image())
		ask(ahead, q)
		if i >= least && len(ahead.Image()) > len(image) {
			break
		}
		ask(want, q)
	}
	got := open(t, id, image)
	if !bytes.Equal(got.Image(), want.Image()) {
		t.Fatalf("node %d of %d bytes: its image is %v, want %v", id, len(image), got.Image(), want.Image())
	}
	for _, q := range requests(rand.New(rand.NewSource(4)), 30) {
		if a, b := ask(got, q), ask(want, q); !reflect.DeepEqual(a, b) && len(a)+len(b) > 0 {
			t.Fatalf("node %d of %d bytes: to %+v it answers %+v, want %+v", id, len(image), q, a, b)
		}
	}
}

func TestP8OnlyClientsAreAnswered(t *testing.T) {
	q := packets.Request{Kind: packets.Trim, Epoch: 5, Place: 2}
	p := packets.Request{Kind: packets.Prepare, Epoch: 5, Place: 2}
	for _, id := range []int{0, 100} {
		n := open(t, id, nil)
		for _, from := range []int{-1, 0, 1, 100, 999, 1100, 1 << 62} {
			n.Receive(from, q.Bytes())
			n.Receive(from, p.Bytes())
		}
		if out := n.Out(); len(out) != 0 || len(n.Image()) != 0 {
			t.Errorf("node %d: %v, %v", id, out, n.Image())
		}
		for _, from := range []int{1000, 1099} {
			n.Receive(from, q.Bytes())
			n.Receive(from, p.Bytes())
		}
		if out := n.Out(); len(out) != 2 || out[0].To != 1000 || out[1].To != 1099 {
			t.Errorf("node %d: to clients %v", id, out)
		}
	}
}

func TestP8AtMostMaxOutAtATime(t *testing.T) {
	for _, id := range []int{3, 102} {
		n := open(t, id, nil)
		for i := range 2*api.MaxOut + 50 {
			n.Receive(api.FirstClient+i%100, packets.Request{Kind: packets.Seal, Line: i / 100, Number: i}.Bytes())
			n.Receive(api.FirstClient+i%100, packets.Request{Kind: packets.Prepare, Line: i / 100, Number: i}.Bytes())
		}
		var all []api.Packet
		for _, want := range []int{api.MaxOut, api.MaxOut, 50, 0} {
			out := n.Out()
			if len(out) != want {
				t.Errorf("node %d: %d packets come out, want %d", id, len(out), want)
			}
			all = append(all, out...)
		}
		for i, p := range all {
			number, _, ok := packets.ReadReply(p.Data)
			if id == 102 {
				number, _, _, ok = packets.ReadVote(p.Data)
			}
			if !ok || number != i || p.To != api.FirstClient+i%100 {
				t.Fatalf("node %d: packet %d is %v", id, i, p)
			}
		}
	}
}

// What was given out is the caller's, while the rest is still to be given.
func TestP2PacketsAreTheCallers(t *testing.T) {
	n, m := open(t, 0, nil), open(t, 0, nil)
	for i := range 3 * api.MaxOut {
		data := packets.Request{Kind: packets.Write, Line: i / 100, Number: i, Place: 0, Content: api.Content{Kind: api.Data, Call: i, Value: []byte("abc")}}.Bytes()
		m.Receive(api.FirstClient+i%100, bytes.Clone(data))
		n.Receive(api.FirstClient+i%100, data)
		clear(data)
	}
	for range 3 {
		got, want := n.Out(), m.Out()
		if len(got) != api.MaxOut || !reflect.DeepEqual(got, want) {
			t.Fatal("what was written into a list has come out again")
		}
		for i := range got {
			spare := got[i].Data[:cap(got[i].Data)]
			clear(spare)
		}
		spare := got[:cap(got)]
		clear(spare)
	}
	if !bytes.Equal(n.Image(), m.Image()) {
		t.Error("what was written into a list has come into the image")
	}
}
