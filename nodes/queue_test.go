package nodes_test

import (
	"bytes"
	"testing"

	"furrow/api"
	"furrow/cells"
	"furrow/packets"
)

// reply reads the only packet that comes out of a unit.
func reply(t *testing.T, n interface{ Out() []api.Packet }) (int, api.Reply) {
	t.Helper()
	out := n.Out()
	if len(out) != 1 || out[0].To != client {
		t.Fatalf("%v comes out", out)
	}
	number, r, ok := packets.ReadReply(out[0].Data)
	if !ok {
		t.Fatalf("%v is no reply", out[0])
	}
	return number, r
}

func TestP11WhatIsDoubledIsAnsweredOnce(t *testing.T) {
	n := open(t, 0, nil)
	k, _ := cells.Open(settings, 0, nil)
	content := api.Content{Kind: api.Data, Client: client, Value: []byte("a")}
	q := packets.Request{Kind: packets.Write, Number: 5, Content: content}
	for range 1000 {
		n.Receive(client, q.Bytes())
	}
	k.Write(0, 0, content)
	if number, r := reply(t, n); number != 5 || r.What != api.Done {
		t.Errorf("to %d it answers %+v", number, r)
	}
	if !bytes.Equal(n.Image(), k.Image()) {
		t.Errorf("its image is %v, want %v", n.Image(), k.Image())
	}
	n.Receive(client, q.Bytes())
	if number, r := reply(t, n); number != 5 || r.What != api.Taken {
		t.Errorf("asked again, to %d it answers %+v", number, r)
	}
}

// The promise has been given: to the packet that was doubled it is refused.
func TestP11OfSeveralAnswersTheFirstGoesOut(t *testing.T) {
	n := open(t, 100, nil)
	q := packets.Request{Kind: packets.Prepare, Line: packets.MoveLine, Number: 5, Epoch: 1, Place: 7}
	for range 1000 {
		n.Receive(client, q.Bytes())
	}
	out := n.Out()
	if len(out) != 1 {
		t.Fatalf("%v comes out", out)
	}
	if number, latest, vote, ok := packets.ReadVote(out[0].Data); !ok || number != 5 || latest != 1 || vote.What != api.Done || vote.Promise != 7 {
		t.Errorf("to %d it answers %+v, the latest epoch is %d", number, vote, latest)
	}
}

// Whatever comes in which order: the answer to the latest question goes out, and
// all of them are done.
func TestP11TheLatestQuestionIsAnswered(t *testing.T) {
	for _, numbers := range [][]int{{1, 2, 3}, {3, 2, 1}, {2, 3, 1}, {1, 3, 2}, {3, 3, 1, 3}, {1, 1, 3, 2, 3}} {
		n := open(t, 0, nil)
		for _, number := range numbers {
			n.Receive(client, packets.Request{Kind: packets.Trim, Number: number, Place: number}.Bytes())
		}
		if number, r := reply(t, n); number != 3 || r.Mark != 3 {
			t.Errorf("of %v it answers %d with %+v", numbers, number, r)
		}
		n.Receive(client, packets.Request{Kind: packets.Trim, Number: 1}.Bytes())
		if number, r := reply(t, n); number != 1 || r.Mark != 3 {
			t.Errorf("behind %v it answers %d with %+v", numbers, number, r)
		}
	}
}

// On all lines of all clients there is an answer, and no more, in the order in
// which they have asked first; however often all is asked, and anew.
func TestP11EachLineOfEachClientIsAnswered(t *testing.T) {
	all := (api.LastClient - api.FirstClient + 1) * packets.Lines
	for id, kind := range map[int]int{0: packets.Read, 100: packets.Recall} {
		n := open(t, id, nil)
		for number := range 20 {
			for i := range all {
				from, line := api.FirstClient+i/packets.Lines, i%packets.Lines
				q := packets.Request{Kind: kind, Line: line, Number: number*all + i}
				n.Receive(from, q.Bytes())
				n.Receive(from, q.Bytes())
			}
		}
		given := 0
		for range all / api.MaxOut {
			for _, p := range n.Out() {
				number, _, isReply := packets.ReadReply(p.Data)
				if !isReply {
					number, _, _, _ = packets.ReadVote(p.Data)
				}
				if p.To != api.FirstClient+given/packets.Lines || number != 19*all+given {
					t.Fatalf("node %d: packet %d answers %d, to %d", id, given, number, p.To)
				}
				given++
			}
		}
		if given != all || len(n.Out()) != 0 {
			t.Errorf("node %d: %d packets come out, want %d", id, given, all)
		}
	}
}
