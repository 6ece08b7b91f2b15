package furrow_test

import (
	"bytes"
	"maps"
	"math"
	"math/rand"
	"slices"
	"testing"

	"furrow/api"
	"furrow/furrow"
)

// voterHistory is some calls, with the image ahead of the first and behind each.
type voterHistory struct {
	calls  []ask
	images [][]byte
}

func newVoterHistory(t *testing.T, calls []ask) voterHistory {
	t.Helper()
	v := openVoter(t, nil)
	h := voterHistory{calls: calls, images: [][]byte{v.Image()}}
	for _, a := range calls {
		a.of(v)
		h.images = append(h.images, v.Image())
	}
	return h
}

func (h voterHistory) last() []byte {
	return h.images[len(h.images)-1]
}

// behind gives a voter of which the first calls were asked.
func (h voterHistory) behind(t *testing.T, count int) *furrow.Voter {
	t.Helper()
	v := openVoter(t, nil)
	for _, a := range h.calls[:count] {
		a.of(v)
	}
	return v
}

// whole tells how many calls have all their bytes among the first size ones.
func (h voterHistory) whole(size int) int {
	count := 0
	for i, image := range h.images {
		if len(image) <= size {
			count = i
		}
	}
	return count
}

// epochs gives the epochs of the calls, and one that there is none of.
func (h voterHistory) epochs() []int {
	set := map[int]struct{}{77: {}}
	for _, a := range h.calls {
		set[a.epoch] = struct{}{}
	}
	return slices.Sorted(maps.Keys(set))
}

func voterHistories(t *testing.T) []voterHistory {
	t.Helper()
	every := []ask{
		{prepare: true, epoch: 1, ballot: 3}, {epoch: 1, ballot: 3, value: []byte("abc")}, {prepare: true, epoch: 1, ballot: 2}, {epoch: 1, ballot: 3, value: []byte("abc")},
		{prepare: true, epoch: 7, ballot: 300}, {epoch: 1, ballot: 900, value: bytes.Repeat([]byte("r"), 255)}, {epoch: 1, ballot: 900, value: []byte{0}},
		{prepare: true, epoch: 1, ballot: 1000}, {epoch: 0, ballot: 1, value: []byte("x")}, {epoch: 2, ballot: 1, value: []byte("\x01\x02\x02\xff")},
		{epoch: math.MaxInt, ballot: math.MaxInt - 1, value: []byte("max")}, {prepare: true, epoch: math.MaxInt, ballot: math.MaxInt},
	}
	list := []voterHistory{newVoterHistory(t, nil), newVoterHistory(t, every)}
	for seed := range int64(20) {
		list = append(list, newVoterHistory(t, asks(rand.New(rand.NewSource(seed)), 25)))
	}
	return list
}

// sameVoters tells whether two answer alike; it asks by a ballot above nearly
// all, so they are of no use behind it.
func sameVoters(t *testing.T, what string, got, want *furrow.Voter, epochs []int) {
	t.Helper()
	for _, epoch := range epochs {
		expectVote(t, what+": the promise", got.Prepare(epoch, -1), want.Prepare(epoch, -1))
		expectVote(t, what+": the vote", got.Prepare(epoch, math.MaxInt), want.Prepare(epoch, math.MaxInt))
	}
}

func TestP7FreshVoter(t *testing.T) {
	for _, image := range [][]byte{nil, {}} {
		v := openVoter(t, image)
		for _, epoch := range []int{1, 2, 1000, math.MaxInt} {
			expectVote(t, "Accept of nothing at a fresh voter", v.Accept(epoch, 1, nil), refused(0))
			expectVote(t, "Prepare at a fresh voter", v.Prepare(epoch, 1), promised(1))
		}
	}
}

func TestP7EveryBeginning(t *testing.T) {
	for _, h := range voterHistories(t) {
		for size := range len(h.last()) + 1 {
			count := h.whole(size)
			v := openVoter(t, h.last()[:size])
			if image := v.Image(); !bytes.Equal(image, h.images[count]) {
				t.Fatalf("of %d bytes the image is %v, want %v", size, image, h.images[count])
			}
			sameVoters(t, "opened", v, h.behind(t, count), h.epochs())
		}
	}
}

// A voter that was opened from a beginning goes on as one that never stopped.
func TestP7GoesOnBehindOpening(t *testing.T) {
	for _, h := range voterHistories(t) {
		for size := range len(h.last()) + 1 {
			v := openVoter(t, h.last()[:size])
			for _, a := range h.calls[h.whole(size):] {
				a.of(v)
			}
			if !bytes.Equal(v.Image(), h.last()) {
				t.Fatalf("from %d bytes on the image has become %v, want %v", size, v.Image(), h.last())
			}
		}
	}
}

func TestP7BytesThatAreNoImage(t *testing.T) {
	v := openVoter(t, nil)
	v.Prepare(1, 5)
	prepared := v.Image()
	v.Accept(1, 6, []byte("x"))
	accepted := bytes.TrimPrefix(v.Image(), prepared)
	for name, image := range map[string][]byte{
		"zeros":                  make([]byte, 64),
		"a text":                 []byte("this is no image of a voter"),
		"one wrong byte":         {200},
		"a promise given twice":  bytes.Join([][]byte{prepared, prepared}, nil),
		"a promise that falls":   bytes.Join([][]byte{accepted, prepared}, nil),
		"a vote kept twice":      bytes.Join([][]byte{accepted, accepted}, nil),
		"wrong bytes behind all": append(v.Image(), 'x'),
	} {
		if v, e := furrow.OpenVoter(image); v != nil || e != api.ErrImage {
			t.Errorf("%s: OpenVoter = %v, %d", name, v, e)
		}
	}
}

// soundVoter fails, if bytes open as something that is no voter.
func soundVoter(t *testing.T, image []byte) {
	t.Helper()
	v, e := furrow.OpenVoter(image)
	if e == api.ErrImage && v == nil {
		return
	}
	if e != api.OK || v == nil {
		t.Fatalf("OpenVoter(%v) = %v, %d", image, v, e)
	}
	kept := v.Image()
	again := openVoter(t, kept)
	if !bytes.Equal(again.Image(), kept) {
		t.Fatalf("the image %v opens as %v", kept, again.Image())
	}
	for epoch := -1; epoch < 9; epoch++ {
		answer := v.Prepare(epoch, math.MaxInt)
		expectVote(t, "Prepare behind opening again", again.Prepare(epoch, math.MaxInt), answer)
		if answer.Ballot < 0 || (answer.Ballot == 0) != (len(answer.Value) == 0) || len(answer.Value) > 255 || answer.Promise < 0 {
			t.Fatalf("the image %v has the vote %+v", image, answer)
		}
		v.Accept(epoch, math.MaxInt, []byte("new"))
	}
	if !bytes.HasPrefix(v.Image(), kept) {
		t.Fatalf("the image %v became %v", kept, v.Image())
	}
}

func TestP1VoterImagesOfAnyBytes(t *testing.T) {
	r := rand.New(rand.NewSource(1))
	for range 20000 {
		image := make([]byte, r.Intn(120))
		r.Read(image)
		for i := range image {
			if r.Intn(2) == 0 {
				image[i] = byte(r.Intn(4))
			}
		}
		soundVoter(t, image)
	}
}

func TestP1VoterImagesWithOneByteChanged(t *testing.T) {
	for _, h := range voterHistories(t)[:5] {
		for i := range h.last() {
			for _, b := range []byte{0, 1, 2, 3, 5, 8, 9, 127, 128, 255} {
				image := bytes.Clone(h.last())
				image[i] = b
				soundVoter(t, image)
			}
		}
	}
}

// The image of cells opens as no voter or as some voter, and that of a voter as
// no cells or as some.
func TestP1ImagesOfCellsAndVotersMixedUp(t *testing.T) {
	for _, h := range histories(t) {
		soundVoter(t, h.last())
	}
	for _, h := range voterHistories(t) {
		for unit := range 2 {
			sound(t, one, unit, h.last())
		}
	}
}

func TestP7EachImageBeginsWithThoseBefore(t *testing.T) {
	for _, h := range voterHistories(t) {
		for i, image := range h.images[1:] {
			if !bytes.HasPrefix(image, h.images[i]) {
				t.Fatalf("behind the call %+v the image %v became %v", h.calls[i], h.images[i], image)
			}
		}
	}
}

func TestP7ImageChangesNothing(t *testing.T) {
	for _, h := range voterHistories(t) {
		asked, left := openVoter(t, nil), openVoter(t, nil)
		for _, a := range h.calls {
			first := asked.Image()
			if !bytes.Equal(asked.Image(), first) {
				t.Fatal("Image() twice gave two images")
			}
			expectVote(t, "a call behind Image()", a.of(asked), a.of(left))
		}
	}
}

func TestP2VoterImagesAreNeitherKeptNorShared(t *testing.T) {
	v := openVoter(t, nil)
	v.Accept(1, 1, []byte("value"))
	want := v.Image()
	for cut := range 2 {
		room := append(bytes.Clone(want), "room"...)
		opened := openVoter(t, room[:len(want)-cut])
		opened.Accept(2, 1, []byte("next"))
		if !bytes.Equal(room, append(bytes.Clone(want), "room"...)) {
			t.Errorf("the image handed in has become %v", room)
		}
		now := opened.Image()
		fill(room)
		if !bytes.Equal(opened.Image(), now) {
			t.Error("the image handed in is kept")
		}
		if cut == 0 {
			expectVote(t, "Prepare", opened.Prepare(1, 2), voted(2, 1, "value"))
		}
	}
	first, second := v.Image(), v.Image()
	fill(first)
	if !bytes.Equal(second, want) || !bytes.Equal(v.Image(), want) {
		t.Error("the image that came out is shared")
	}
	v.Accept(2, 1, []byte("next"))
	fill(second)
	if !bytes.HasPrefix(v.Image(), want) {
		t.Error("the image that came out is shared")
	}
	expectVote(t, "Prepare behind opening", openVoter(t, v.Image()).Prepare(1, 2), voted(2, 1, "value"))
}
