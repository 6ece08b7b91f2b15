package furrow_test

import (
	"bytes"
	"math"
	"math/rand"
	"strconv"
	"strings"
	"testing"

	"furrow/api"
	"furrow/furrow"
)

var one = api.Config{Chains: 1, Units: 2, Voters: 1, Cells: 5}

func openCells(t *testing.T, c api.Config, unit int, image []byte) *furrow.Cells {
	t.Helper()
	k, e := furrow.OpenCells(c, unit, image)
	if k == nil || e != api.OK {
		t.Fatalf("OpenCells(%v, %d, %v) = %v, %d", c, unit, image, k, e)
	}
	return k
}

func data(client, call int, value string) api.Content {
	return api.Content{Kind: api.Data, Client: client, Call: call, Value: []byte(value)}
}

func junk(client, call int) api.Content {
	return api.Content{Kind: api.Junk, Client: client, Call: call}
}

func told(c api.Content) api.Content {
	c.Value = nil
	return c
}

func sameReply(a, b api.Reply) bool {
	x, y := a.Content, b.Content
	return a.What == b.What && a.Epoch == b.Epoch && a.Mark == b.Mark &&
		x.Kind == y.Kind && x.Client == y.Client && x.Call == y.Call && bytes.Equal(x.Value, y.Value)
}

func expect(t *testing.T, what string, got, want api.Reply) {
	t.Helper()
	if !sameReply(got, want) {
		t.Errorf("%s = %+v, want %+v", what, got, want)
	}
}

func TestP5Example(t *testing.T) {
	k := openCells(t, one, 0, nil)
	a := data(5, 2, "a")
	expect(t, "Write(0, 1, a)", k.Write(0, 1, a), api.Reply{What: api.Done})
	expect(t, "Write(0, 1, b)", k.Write(0, 1, data(5, 2, "b")), api.Reply{What: api.Taken, Content: a})
	expect(t, "Read(0, 0)", k.Read(0, 0), api.Reply{What: api.Empty})
	expect(t, "Trim(3, 2)", k.Trim(3, 2), api.Reply{What: api.Done, Mark: 2})
	expect(t, "Read(2, 1)", k.Read(2, 1), api.Reply{What: api.Sealed, Epoch: 3})
	expect(t, "Read(3, 1)", k.Read(3, 1), api.Reply{What: api.Trimmed, Mark: 2, Content: told(a)})
	expect(t, "Write(3, 2)", k.Write(3, 2, a), api.Reply{What: api.Done})
	expect(t, "Write(3, 99)", k.Write(3, 99, a), api.Reply{What: api.Refused})
}

func TestP5Seal(t *testing.T) {
	k := openCells(t, one, 0, nil)
	expect(t, "Seal(-1)", k.Seal(-1), api.Reply{What: api.Sealed})
	expect(t, "Seal(min)", k.Seal(math.MinInt), api.Reply{What: api.Sealed})
	expect(t, "Seal(0)", k.Seal(0), api.Reply{What: api.Done})
	expect(t, "Seal(4)", k.Seal(4), api.Reply{What: api.Done, Epoch: 4})
	expect(t, "Seal(4) again", k.Seal(4), api.Reply{What: api.Done, Epoch: 4})
	expect(t, "Seal(3)", k.Seal(3), api.Reply{What: api.Sealed, Epoch: 4})
	expect(t, "Seal(max)", k.Seal(math.MaxInt), api.Reply{What: api.Done, Epoch: math.MaxInt})
	expect(t, "Seal(max - 1)", k.Seal(math.MaxInt-1), api.Reply{What: api.Sealed, Epoch: math.MaxInt})
}

// Whatever a call answers, a higher epoch is the cells' from then on; a lower
// one changes nothing.
func TestP5EachCallReachesItsEpoch(t *testing.T) {
	full := data(1, 1, "full")
	calls := map[string]func(k *furrow.Cells, epoch int) api.Reply{
		"Seal":              func(k *furrow.Cells, epoch int) api.Reply { return k.Seal(epoch) },
		"Trim up":           func(k *furrow.Cells, epoch int) api.Reply { return k.Trim(epoch, 4) },
		"Trim down":         func(k *furrow.Cells, epoch int) api.Reply { return k.Trim(epoch, -4) },
		"Write Done":        func(k *furrow.Cells, epoch int) api.Reply { return k.Write(epoch, 2, full) },
		"Write Taken":       func(k *furrow.Cells, epoch int) api.Reply { return k.Write(epoch, 1, full) },
		"Write Trimmed":     func(k *furrow.Cells, epoch int) api.Reply { return k.Write(epoch, 0, full) },
		"Write nowhere":     func(k *furrow.Cells, epoch int) api.Reply { return k.Write(epoch, 5, full) },
		"Write no content":  func(k *furrow.Cells, epoch int) api.Reply { return k.Write(epoch, 2, api.Content{}) },
		"Read Taken":        func(k *furrow.Cells, epoch int) api.Reply { return k.Read(epoch, 1) },
		"Read Empty":        func(k *furrow.Cells, epoch int) api.Reply { return k.Read(epoch, 2) },
		"Read Trimmed":      func(k *furrow.Cells, epoch int) api.Reply { return k.Read(epoch, 0) },
		"Read Refused":      func(k *furrow.Cells, epoch int) api.Reply { return k.Read(epoch, -1) },
		"Read of the edges": func(k *furrow.Cells, epoch int) api.Reply { return k.Read(epoch, math.MaxInt) },
	}
	for name, call := range calls {
		k := openCells(t, one, 0, nil)
		k.Write(5, 1, full)
		k.Trim(5, 1)
		image := k.Image()
		for _, below := range []int{math.MinInt, -1, 0, 4} {
			expect(t, name+" below the epoch", call(k, below), api.Reply{What: api.Sealed, Epoch: 5})
		}
		if !bytes.Equal(k.Image(), image) {
			t.Errorf("%s below the epoch has changed the image", name)
		}
		if r := call(k, 9); r.What == api.Sealed {
			t.Errorf("%s above the epoch = %+v", name, r)
		}
		expect(t, "Seal behind "+name, k.Seal(8), api.Reply{What: api.Sealed, Epoch: 9})
		expect(t, "Seal behind opening behind "+name, openCells(t, one, 0, k.Image()).Seal(8), api.Reply{What: api.Sealed, Epoch: 9})
	}
}

func TestP5Trim(t *testing.T) {
	k := openCells(t, one, 0, nil)
	expect(t, "Trim(0, min)", k.Trim(0, math.MinInt), api.Reply{What: api.Done})
	expect(t, "Trim(0, 0)", k.Trim(0, 0), api.Reply{What: api.Done})
	expect(t, "Read(0, 0)", k.Read(0, 0), api.Reply{What: api.Empty})
	expect(t, "Trim(0, 3)", k.Trim(0, 3), api.Reply{What: api.Done, Mark: 3})
	expect(t, "Trim(0, 2)", k.Trim(0, 2), api.Reply{What: api.Done, Mark: 3})
	expect(t, "Read(0, 2)", k.Read(0, 2), api.Reply{What: api.Trimmed, Mark: 3})
	expect(t, "Read(0, 3)", k.Read(0, 3), api.Reply{What: api.Empty})
	expect(t, "Trim(0, max)", k.Trim(0, math.MaxInt), api.Reply{What: api.Done, Mark: math.MaxInt})
	expect(t, "Read(0, 4)", k.Read(0, 4), api.Reply{What: api.Trimmed, Mark: math.MaxInt})
	expect(t, "Read(0, 5)", k.Read(0, 5), api.Reply{What: api.Refused})
	expect(t, "Read(0, -1)", k.Read(0, -1), api.Reply{What: api.Refused})
}

func TestP5WriteAndRead(t *testing.T) {
	for _, c := range []api.Content{
		data(1000, 0, "x"), data(-1, math.MinInt, "12345678"), data(math.MaxInt, -1, "\x00\xff\x00"),
		junk(0, 0), junk(math.MinInt, math.MaxInt), {Kind: api.Junk, Client: 7, Value: []byte{}},
	} {
		k := openCells(t, one, 0, nil)
		expect(t, "Write", k.Write(0, 4, c), api.Reply{What: api.Done})
		expect(t, "Write again", k.Write(0, 4, c), api.Reply{What: api.Taken, Content: c})
		expect(t, "Write of another", k.Write(0, 4, data(3, 3, "other")), api.Reply{What: api.Taken, Content: c})
		expect(t, "Write of junk", k.Write(0, 4, junk(3, 3)), api.Reply{What: api.Taken, Content: c})
		expect(t, "Read", k.Read(0, 4), api.Reply{What: api.Taken, Content: c})
		expect(t, "Read beside", k.Read(0, 3), api.Reply{What: api.Empty})
		k.Trim(0, 5)
		gone := api.Reply{What: api.Trimmed, Mark: 5, Content: told(c)}
		expect(t, "Read of the trimmed", k.Read(0, 4), gone)
		expect(t, "Write to the trimmed", k.Write(0, 4, data(3, 3, "other")), gone)
		expect(t, "Write to the trimmed and empty", k.Write(0, 0, c), api.Reply{What: api.Trimmed, Mark: 5})
		expect(t, "Read of the trimmed and empty", k.Read(0, 0), api.Reply{What: api.Trimmed, Mark: 5})
	}
}

func TestP5NoContentIsRefused(t *testing.T) {
	bad := []api.Content{
		{}, {Kind: api.Data}, {Kind: api.Data, Value: []byte{}}, data(1, 1, "123456789"), data(1, 1, strings.Repeat("v", 300)),
		{Kind: api.Junk, Value: []byte{0}}, {Kind: api.Junk, Value: bytes.Repeat([]byte{1}, 256)}, {Client: 5, Call: 2, Value: []byte("a")},
	}
	for _, n := range extremes {
		bad = append(bad, api.Content{Kind: n, Value: []byte("a")}, api.Content{Kind: n})
	}
	for _, kind := range []int{api.Data - 1, api.Junk + 1, api.Data + 256, api.Junk + 256} {
		bad = append(bad, api.Content{Kind: kind, Value: []byte("a")}, api.Content{Kind: kind})
	}
	k := openCells(t, one, 0, nil)
	k.Write(0, 1, data(1, 1, "a"))
	k.Trim(0, 1)
	image := k.Image()
	for _, c := range bad {
		for address := range 3 {
			expect(t, "Write of no content", k.Write(0, address, c), api.Reply{What: api.Refused})
		}
	}
	if !bytes.Equal(k.Image(), image) {
		t.Error("what was refused has changed the image")
	}
}

// Each address is a cell of the units of its chain, and of no others.
func TestP5AddressesOfOtherChainsAreRefused(t *testing.T) {
	for _, c := range settings() {
		if !mayBe(c) {
			continue
		}
		for unit := range c.Chains * c.Units {
			k := openCells(t, c, unit, nil)
			for address := -3; address < c.Chains*c.Cells+3; address++ {
				want, there := api.Reply{What: api.Refused}, api.Reply{What: api.Refused}
				mine := data(unit, address, strconv.Itoa(address))
				if chain, _, e := furrow.Locate(c, address); e == api.OK && chain == unit/c.Units {
					want, there = api.Reply{What: api.Done}, api.Reply{What: api.Taken, Content: mine}
				}
				expect(t, "Write", k.Write(0, address, mine), want)
				expect(t, "Read", k.Read(0, address), there)
			}
		}
	}
}

// model is P5 said once more, without an image.
type model struct {
	c           api.Config
	chain       int
	epoch, mark int
	contents    map[int]api.Content
}

func (m *model) do(s step) api.Reply {
	if s.epoch < m.epoch {
		return api.Reply{What: api.Sealed, Epoch: m.epoch}
	}
	m.epoch = s.epoch
	switch s.call {
	case 0:
		return api.Reply{What: api.Done, Epoch: m.epoch}
	case 1:
		m.mark = max(m.mark, s.number)
		return api.Reply{What: api.Done, Mark: m.mark}
	}
	if chain, _, e := furrow.Locate(m.c, s.number); e != api.OK || chain != m.chain {
		return api.Reply{What: api.Refused}
	}
	length := len(s.content.Value)
	if s.call == 2 && !(s.content.Kind == api.Data && length > 0 && length <= 8 || s.content.Kind == api.Junk && length == 0) {
		return api.Reply{What: api.Refused}
	}
	there, taken := m.contents[s.number]
	if s.number < m.mark {
		return api.Reply{What: api.Trimmed, Mark: m.mark, Content: told(there)}
	}
	if taken {
		return api.Reply{What: api.Taken, Content: there}
	}
	if s.call == 3 {
		return api.Reply{What: api.Empty}
	}
	m.contents[s.number] = s.content
	return api.Reply{What: api.Done}
}

type step struct {
	call, epoch, number int
	content             api.Content
}

func (s step) on(k *furrow.Cells) api.Reply {
	switch s.call {
	case 0:
		return k.Seal(s.epoch)
	case 1:
		return k.Trim(s.epoch, s.number)
	case 2:
		return k.Write(s.epoch, s.number, s.content)
	}
	return k.Read(s.epoch, s.number)
}

// steps gives calls that mostly do something; now and then a number of any size.
func steps(r *rand.Rand, count int) []step {
	list := make([]step, count)
	epoch, mark := 0, 0
	for i := range list {
		if r.Intn(4) == 0 {
			epoch++
		}
		s := step{call: r.Intn(4), epoch: epoch - r.Intn(6)/5, number: r.Intn(50) - 1}
		if s.call == 1 {
			mark += r.Intn(3) - 1
			s.number = mark
		}
		if r.Intn(20) == 0 {
			s.number = extremes[r.Intn(len(extremes))]
		}
		kind := []int{api.Data, api.Data, api.Data, api.Junk, r.Intn(12)}[r.Intn(5)]
		s.content = api.Content{Kind: kind, Client: extremes[r.Intn(len(extremes))], Call: r.Intn(9)}
		if kind != api.Junk || r.Intn(5) == 0 {
			s.content.Value = make([]byte, r.Intn(10))
			r.Read(s.content.Value)
		}
		list[i] = s
	}
	return list
}

func TestP5AsTheModel(t *testing.T) {
	for seed := range int64(200) {
		r := rand.New(rand.NewSource(seed))
		c := api.Config{Chains: 1 + r.Intn(3), Units: 1 + r.Intn(3), Voters: 3, Cells: 1 + r.Intn(16)}
		unit := r.Intn(c.Chains * c.Units)
		k := openCells(t, c, unit, nil)
		m := &model{c: c, chain: unit / c.Units, contents: map[int]api.Content{}}
		for i, s := range steps(r, 120) {
			if got, want := s.on(k), m.do(s); !sameReply(got, want) {
				t.Fatalf("seed %d, call %d: %+v = %+v, want %+v", seed, i, s, got, want)
			}
			if i%10 == 0 {
				k = openCells(t, c, unit, k.Image())
			}
		}
	}
}

func TestP2WriteLeavesAndForgetsTheValue(t *testing.T) {
	k := openCells(t, one, 0, nil)
	value := []byte("value#room")[:5]
	want := data(1, 2, "value")
	k.Write(0, 0, api.Content{Kind: api.Data, Client: 1, Call: 2, Value: value})
	k.Write(0, 0, api.Content{Kind: api.Data, Value: value})
	k.Read(0, 0)
	if string(value[:10]) != "value#room" {
		t.Errorf("the value handed in has become %q", value[:10])
	}
	image := k.Image()
	fill(value)
	expect(t, "Read", k.Read(0, 0), api.Reply{What: api.Taken, Content: want})
	if !bytes.Equal(k.Image(), image) {
		t.Error("the image has changed with the value handed in")
	}
}

func TestP2RepliesAreTheCallers(t *testing.T) {
	k := openCells(t, one, 0, nil)
	want := api.Reply{What: api.Taken, Content: data(1, 2, "value")}
	k.Write(0, 0, want.Content)
	image := k.Image()
	read, taken := k.Read(0, 0), k.Write(0, 0, junk(0, 0))
	fill(read.Content.Value)
	expect(t, "the reply of Write", taken, want)
	fill(taken.Content.Value)
	expect(t, "Read", k.Read(0, 0), want)
	expect(t, "Read behind opening", openCells(t, one, 0, k.Image()).Read(0, 0), want)
	if !bytes.Equal(k.Image(), image) {
		t.Error("the image has changed with a reply")
	}
}

func TestP2CellsKnowNothingOfOneAnother(t *testing.T) {
	a := openCells(t, one, 0, nil)
	a.Write(0, 0, data(1, 1, "old"))
	b := openCells(t, one, 0, a.Image())
	a.Write(1, 1, data(1, 2, "of a"))
	b.Write(2, 1, data(1, 3, "of b"))
	b.Trim(2, 1)
	expect(t, "a.Read(1, 0)", a.Read(1, 0), api.Reply{What: api.Taken, Content: data(1, 1, "old")})
	expect(t, "a.Read(1, 1)", a.Read(1, 1), api.Reply{What: api.Taken, Content: data(1, 2, "of a")})
	expect(t, "b.Read(2, 1)", b.Read(2, 1), api.Reply{What: api.Taken, Content: data(1, 3, "of b")})
	again := openCells(t, one, 0, a.Image())
	expect(t, "Read behind opening", again.Read(1, 1), api.Reply{What: api.Taken, Content: data(1, 2, "of a")})
}
