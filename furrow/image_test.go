package furrow_test

import (
	"bytes"
	"math"
	"math/rand"
	"testing"

	"furrow/api"
	"furrow/furrow"
)

// sameCells tells whether two answer alike; it asks by an epoch above all, so
// they are of no use behind it.
func sameCells(t *testing.T, what string, got, want *furrow.Cells, c api.Config) {
	t.Helper()
	expect(t, what+": Seal(-1)", got.Seal(-1), want.Seal(-1))
	for address := -1; address <= c.Chains*c.Cells; address++ {
		expect(t, what+": Read", got.Read(math.MaxInt, address), want.Read(math.MaxInt, address))
	}
	expect(t, what+": Trim", got.Trim(math.MaxInt, math.MinInt), want.Trim(math.MaxInt, math.MinInt))
}

// history is some calls, with the image ahead of the first and behind each.
type history struct {
	c      api.Config
	unit   int
	calls  []step
	images [][]byte
}

func newHistory(t *testing.T, c api.Config, unit int, calls []step) history {
	t.Helper()
	k := openCells(t, c, unit, nil)
	h := history{c: c, unit: unit, calls: calls, images: [][]byte{k.Image()}}
	for _, s := range calls {
		s.on(k)
		h.images = append(h.images, k.Image())
	}
	return h
}

func (h history) last() []byte {
	return h.images[len(h.images)-1]
}

// behind gives cells on which the first calls were done.
func (h history) behind(t *testing.T, count int) *furrow.Cells {
	t.Helper()
	k := openCells(t, h.c, h.unit, nil)
	for _, s := range h.calls[:count] {
		s.on(k)
	}
	return k
}

// whole tells how many calls have all their bytes among the first size ones.
func (h history) whole(size int) int {
	count := 0
	for i, image := range h.images {
		if len(image) <= size {
			count = i
		}
	}
	return count
}

func histories(t *testing.T) []history {
	t.Helper()
	every := []step{
		{2, 0, 1, data(1, 1, "one")}, {3, 2, 0, api.Content{}}, {2, 2, 0, data(-2, math.MaxInt, "12345678")}, {2, 1, 2, data(2, 2, "old")},
		{1, 5, 1, api.Content{}}, {2, 6, 4, junk(9, math.MinInt)}, {0, 300, 0, api.Content{}}, {2, 1 << 40, 3, data(3, 3, "\x00\x03\xff")},
		{2, 1 << 41, 3, data(4, 4, "taken")}, {2, 1 << 42, 99, data(4, 4, "nowhere")}, {1, 1 << 43, 0, api.Content{}},
		{2, 1 << 44, 2, api.Content{}}, {1, math.MaxInt, math.MaxInt, api.Content{}},
	}
	list := []history{newHistory(t, one, 1, nil), newHistory(t, one, 1, every)}
	for seed := range int64(20) {
		r := rand.New(rand.NewSource(seed))
		c := api.Config{Chains: 1 + r.Intn(3), Units: 1 + r.Intn(3), Voters: 3, Cells: 1 + r.Intn(16)}
		list = append(list, newHistory(t, c, r.Intn(c.Chains*c.Units), steps(r, 60)))
	}
	return list
}

func TestP4ErrArg(t *testing.T) {
	images := [][]byte{nil, {}, {0}, bytes.Repeat([]byte{255}, 50)}
	for _, c := range settings() {
		for _, unit := range extremes {
			if mayBe(c) && unit >= 0 && unit < c.Chains*c.Units {
				openCells(t, c, unit, nil)
				continue
			}
			for _, image := range images {
				if k, e := furrow.OpenCells(c, unit, image); k != nil || e != api.ErrArg {
					t.Errorf("OpenCells(%v, %d, %v) = %v, %d", c, unit, image, k, e)
				}
			}
		}
	}
}

func TestP4FreshCells(t *testing.T) {
	for _, image := range [][]byte{nil, {}} {
		k := openCells(t, one, 1, image)
		for address := range 5 {
			expect(t, "Read of fresh cells", k.Read(0, address), api.Reply{What: api.Empty})
		}
		expect(t, "Seal of fresh cells", k.Seal(-1), api.Reply{What: api.Sealed, Epoch: 0})
		expect(t, "Trim of fresh cells", k.Trim(0, -1), api.Reply{What: api.Done, Mark: 0})
	}
}

func TestP4EveryBeginning(t *testing.T) {
	for _, h := range histories(t) {
		for size := range len(h.last()) + 1 {
			count := h.whole(size)
			k := openCells(t, h.c, h.unit, h.last()[:size])
			if image := k.Image(); !bytes.Equal(image, h.images[count]) {
				t.Fatalf("of %d bytes the image is %v, want %v", size, image, h.images[count])
			}
			sameCells(t, "opened", k, h.behind(t, count), h.c)
		}
	}
}

// Cells that were opened from a beginning go on as those that never stopped.
func TestP4GoesOnBehindOpening(t *testing.T) {
	for _, h := range histories(t) {
		for size := range len(h.last()) + 1 {
			count := h.whole(size)
			k := openCells(t, h.c, h.unit, h.last()[:size])
			for _, s := range h.calls[count:] {
				s.on(k)
			}
			if !bytes.Equal(k.Image(), h.last()) {
				t.Fatalf("from %d bytes on the image has become %v, want %v", size, k.Image(), h.last())
			}
		}
	}
}

func TestP4BytesThatAreNoImage(t *testing.T) {
	k := openCells(t, one, 0, nil)
	k.Write(3, 1, data(5, 2, "abc"))
	written := k.Image()
	k.Seal(7)
	sealed := bytes.TrimPrefix(k.Image(), written)
	k.Trim(7, 2)
	trimmed := bytes.TrimPrefix(k.Image(), bytes.Join([][]byte{written, sealed}, nil))
	for name, image := range map[string][]byte{
		"zeros":                  make([]byte, 64),
		"a text":                 []byte("this is no image of any cells"),
		"one wrong byte":         {200},
		"a cell written twice":   bytes.Join([][]byte{written, written}, nil),
		"an epoch that falls":    bytes.Join([][]byte{sealed, written}, nil),
		"an epoch that stays":    bytes.Join([][]byte{sealed, sealed}, nil),
		"a mark that stays":      bytes.Join([][]byte{trimmed, trimmed}, nil),
		"wrong bytes behind all": append(k.Image(), 'x'),
	} {
		if k, e := furrow.OpenCells(one, 0, image); k != nil || e != api.ErrImage {
			t.Errorf("%s: OpenCells = %v, %d", name, k, e)
		}
	}
	if k, e := furrow.OpenCells(api.Config{Chains: 2, Units: 1, Voters: 1, Cells: 5}, 0, written); k != nil || e != api.ErrImage {
		t.Errorf("an image of other settings: OpenCells = %v, %d", k, e)
	}
}

// sound fails, if bytes open as something that is no cells.
func sound(t *testing.T, c api.Config, unit int, image []byte) {
	t.Helper()
	k, e := furrow.OpenCells(c, unit, image)
	if e == api.ErrImage && k == nil {
		return
	}
	if e != api.OK || k == nil {
		t.Fatalf("OpenCells(%v) = %v, %d", image, k, e)
	}
	kept := k.Image()
	again := openCells(t, c, unit, kept)
	if !bytes.Equal(again.Image(), kept) {
		t.Fatalf("the image %v opens as %v", kept, again.Image())
	}
	for address := -1; address <= c.Chains*c.Cells; address++ {
		r := k.Read(math.MaxInt, address)
		expect(t, "Read behind opening again", again.Read(math.MaxInt, address), r)
		if size := len(r.Content.Value); r.What == api.Taken && !(r.Content.Kind == api.Data && size >= 1 && size <= api.MaxValue || r.Content.Kind == api.Junk && size == 0) {
			t.Fatalf("the image %v has the content %+v", image, r.Content)
		}
		k.Write(math.MaxInt, address, data(1, address, "new"))
	}
	k.Trim(math.MaxInt, math.MaxInt)
	if !bytes.HasPrefix(k.Image(), kept) {
		t.Fatalf("the image %v became %v", kept, k.Image())
	}
}

func TestP1ImagesOfAnyBytes(t *testing.T) {
	r := rand.New(rand.NewSource(1))
	for range 20000 {
		image := make([]byte, r.Intn(120))
		r.Read(image)
		for i := range image {
			if r.Intn(2) == 0 {
				image[i] = byte(r.Intn(10))
			}
		}
		sound(t, one, r.Intn(2), image)
	}
}

func TestP1ImagesWithOneByteChanged(t *testing.T) {
	for _, h := range histories(t)[:6] {
		for i := range h.last() {
			for _, b := range []byte{0, 1, 2, 3, 5, 8, 9, 127, 128, 255} {
				image := bytes.Clone(h.last())
				image[i] = b
				sound(t, h.c, h.unit, image)
			}
		}
	}
}

func TestP1ImagesOfOtherCells(t *testing.T) {
	for _, h := range histories(t) {
		for _, c := range settings() {
			if !mayBe(c) {
				continue
			}
			for unit := range c.Chains * c.Units {
				sound(t, c, unit, h.last())
			}
		}
	}
}

func TestP1CellsAtAllNumbers(t *testing.T) {
	for _, epoch := range extremes {
		for _, number := range extremes {
			k := openCells(t, one, 0, nil)
			for call := range 4 {
				s := step{call: call, epoch: epoch, number: number, content: data(number, epoch, "v")}
				m := &model{c: one, contents: map[int]api.Content{}}
				expect(t, "a call on fresh cells", s.on(openCells(t, one, 0, nil)), m.do(s))
				s.on(k)
			}
			sameCells(t, "opened", openCells(t, one, 0, k.Image()), k, one)
		}
	}
}

func TestP6EachImageBeginsWithThoseBefore(t *testing.T) {
	for _, h := range histories(t) {
		for i, image := range h.images[1:] {
			if !bytes.HasPrefix(image, h.images[i]) {
				t.Fatalf("behind the call %+v the image %v became %v", h.calls[i], h.images[i], image)
			}
		}
	}
}

func TestP6ImageChangesNothing(t *testing.T) {
	for _, h := range histories(t) {
		asked, left := openCells(t, h.c, h.unit, nil), openCells(t, h.c, h.unit, nil)
		for _, s := range h.calls {
			first := asked.Image()
			if !bytes.Equal(asked.Image(), first) {
				t.Fatal("Image() twice gave two images")
			}
			expect(t, "a call behind Image()", s.on(asked), s.on(left))
		}
	}
}

func TestP2ImagesAreNeitherKeptNorShared(t *testing.T) {
	k := openCells(t, one, 0, nil)
	content := data(1, 2, "value")
	k.Write(0, 0, content)
	want := k.Image()
	for cut := range 2 {
		room := append(bytes.Clone(want), "room"...)
		image := room[:len(want)-cut]
		opened := openCells(t, one, 0, image)
		opened.Write(0, 1, data(3, 4, "next"))
		if !bytes.Equal(room, append(bytes.Clone(want), "room"...)) {
			t.Errorf("the image handed in has become %v", room)
		}
		now := opened.Image()
		fill(room)
		if !bytes.Equal(opened.Image(), now) {
			t.Error("the image handed in is kept")
		}
		if cut == 0 {
			expect(t, "Read", opened.Read(0, 0), api.Reply{What: api.Taken, Content: content})
		}
	}
	first, second := k.Image(), k.Image()
	fill(first)
	if !bytes.Equal(second, want) || !bytes.Equal(k.Image(), want) {
		t.Error("the image that came out is shared")
	}
	k.Write(0, 1, data(3, 4, "next"))
	fill(second)
	if !bytes.HasPrefix(k.Image(), want) {
		t.Error("the image that came out is shared")
	}
	expect(t, "Read behind opening", openCells(t, one, 0, k.Image()).Read(0, 0), api.Reply{What: api.Taken, Content: content})
}
