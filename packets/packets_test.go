package packets_test

import (
	"bytes"
	"math"
	"reflect"
	"testing"

	"furrow/api"
	"furrow/packets"
)

var kinds = []int{packets.Seal, packets.Write, packets.Read, packets.Trim, packets.Prepare, packets.Accept, packets.Recall}

func request(kind int, value string) packets.Request {
	content := api.Content{Kind: api.Data, Client: math.MinInt, Call: math.MaxInt, Value: []byte(value)}
	return packets.Request{Kind: kind, Line: packets.MoveLine, Number: 1 << 40, Epoch: -1, Place: math.MaxInt, Content: content}
}

func TestRequestsComeBackAsTheyWere(t *testing.T) {
	values := map[int]string{packets.Write: "12345678", packets.Accept: string(bytes.Repeat([]byte{200}, 255))}
	for _, kind := range kinds {
		for _, value := range []string{"", values[kind]} {
			q := request(kind, value)
			if got, ok := packets.ReadRequest(q.Bytes()); !ok || !reflect.DeepEqual(got, q) {
				t.Errorf("%+v has become %+v, %v", q, got, ok)
			}
		}
	}
}

func TestAnswersComeBackAsTheyWere(t *testing.T) {
	content := api.Content{Kind: api.Junk, Client: -3, Call: math.MaxInt, Value: []byte("12345678")}
	reply := api.Reply{What: api.Trimmed, Epoch: math.MinInt, Mark: 77, Content: content}
	if number, got, ok := packets.ReadReply(packets.ReplyBytes(-9, reply)); !ok || number != -9 || !reflect.DeepEqual(got, reply) {
		t.Errorf("%+v has become %d, %+v, %v", reply, number, got, ok)
	}
	vote := api.Vote{What: api.Refused, Promise: math.MaxInt, Ballot: math.MinInt, Value: bytes.Repeat([]byte{7}, 255)}
	if number, latest, got, ok := packets.ReadVote(packets.VoteBytes(1<<50, 1<<45, vote)); !ok || number != 1<<50 || latest != 1<<45 || !reflect.DeepEqual(got, vote) {
		t.Errorf("%+v has become %d, %d, %+v, %v", vote, number, latest, got, ok)
	}
}

// taken tells which of the three readers take the bytes.
func taken(data []byte) [3]bool {
	_, request := packets.ReadRequest(data)
	_, _, reply := packets.ReadReply(data)
	_, _, _, vote := packets.ReadVote(data)
	return [3]bool{request, reply, vote}
}

func TestWhatIsNoPacketIsNotTaken(t *testing.T) {
	whole := [][]byte{packets.ReplyBytes(1, api.Reply{}), packets.VoteBytes(1, 0, api.Vote{})}
	for _, kind := range kinds {
		whole = append(whole, request(kind, "").Bytes())
	}
	for _, data := range whole {
		for size := range data {
			if taken(data[:size]) != [3]bool{} {
				t.Errorf("%d bytes of %v are taken", size, data)
			}
		}
		for _, behind := range [][]byte{{0}, {1}, data[:1], data} {
			if more := append(bytes.Clone(data), behind...); taken(more) != [3]bool{} {
				t.Errorf("%v is taken", more)
			}
		}
	}
	tooLong := append(request(packets.Write, "").Bytes(), "123456789"...)
	tooLong[2] = 9
	for _, data := range [][]byte{tooLong, request(0, "").Bytes(), request(8, "").Bytes(), request(packets.Read, "a").Bytes(), request(packets.Recall, "a").Bytes()} {
		if taken(data) != [3]bool{} {
			t.Errorf("%v is taken", data)
		}
	}
}

func TestALineThatIsNoneMakesItNoRequest(t *testing.T) {
	for line, want := range map[int]bool{math.MinInt: false, -1: false, 0: true, api.MaxCalls: true, packets.Lines - 1: true, packets.Lines: false, math.MaxInt: false} {
		for _, kind := range kinds {
			q := packets.Request{Kind: kind, Line: line}
			if _, ok := packets.ReadRequest(q.Bytes()); ok != want {
				t.Errorf("%+v: taken %v", q, ok)
			}
		}
	}
}

func TestEachReaderTakesItsOwnPackets(t *testing.T) {
	for _, kind := range kinds {
		if got := taken(request(kind, "").Bytes()); got != [3]bool{true, false, false} {
			t.Errorf("a request of the kind %d is taken by %v", kind, got)
		}
	}
	if got := taken(packets.ReplyBytes(1, api.Reply{})); got != [3]bool{false, true, false} {
		t.Errorf("a reply is taken by %v", got)
	}
	if got := taken(packets.VoteBytes(1, 0, api.Vote{})); got != [3]bool{false, false, true} {
		t.Errorf("a vote is taken by %v", got)
	}
}

func TestNoPacketIsShort(t *testing.T) {
	for _, kind := range kinds {
		if n := len(packets.Request{Kind: kind}.Bytes()); n < 4 {
			t.Errorf("a request of the kind %d has %d bytes", kind, n)
		}
	}
	if len(packets.ReplyBytes(0, api.Reply{})) < 4 || len(packets.VoteBytes(0, 0, api.Vote{})) < 4 {
		t.Error("an answer has fewer than four bytes")
	}
}
