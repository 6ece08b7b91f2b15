package furrow_test

import (
	"bytes"
	"math/rand"
	"slices"
	"strconv"
	"testing"

	"furrow/api"
	"furrow/furrow"
	"furrow/packets"
)

// letter is a packet on its way.
type letter struct {
	from int
	p    api.Packet
}

// line is one on which a client asks a node.
type line struct {
	client, node, line int
}

// made is a call that a client of the world has begun.
type made struct {
	client, number int
	entry
}

// world is nodes, clients, what is on its way between them, and the calls.
type world struct {
	t       *testing.T
	c       api.Config
	r       *rand.Rand
	ids     []int // of the nodes
	nodes   map[int]*furrow.Node
	sure    map[int]int // how long a node's image was when Out() was last called
	clients map[int]*furrow.Client
	letters []letter
	calls   []*made
	now     int
	had     map[int]bool // the tokens that some append had
	mixed   bool         // in a step, letters are handed in in any order
	rank    map[int]int  // in each step, whose letters are handed in first
	chosen  *chosen      // what voters have voted for, if somebody wants to know
	asked   map[line]int // the number of what was asked last
}

func newWorld(t *testing.T, c api.Config, clients int, seed int64) *world {
	t.Helper()
	w := &world{t: t, c: c, r: rand.New(rand.NewSource(seed)), nodes: map[int]*furrow.Node{}, sure: map[int]int{}, clients: map[int]*furrow.Client{}, had: map[int]bool{}, asked: map[line]int{}}
	for id := range c.Chains * c.Units {
		w.ids = append(w.ids, id)
	}
	for i := range c.Voters {
		w.ids = append(w.ids, api.FirstVoter+i)
	}
	for _, id := range w.ids {
		w.nodes[id] = openNode(t, c, id, nil)
	}
	for i := range clients {
		w.join(api.FirstClient + i)
	}
	return w
}

func openNode(t *testing.T, c api.Config, id int, image []byte) *furrow.Node {
	t.Helper()
	n, e := furrow.OpenNode(c, id, image)
	if n == nil || e != api.OK {
		t.Fatalf("OpenNode(%v, %d, %v) = %v, %d", c, id, image, n, e)
	}
	return n
}

func newClient(t *testing.T, c api.Config, id int) *furrow.Client {
	t.Helper()
	x, e := furrow.NewClient(c, id)
	if x == nil || e != api.OK {
		t.Fatalf("NewClient(%v, %d) = %v, %d", c, id, x, e)
	}
	return x
}

func (w *world) join(id int) {
	w.t.Helper()
	w.clients[id] = newClient(w.t, w.c, id)
}

func (w *world) addresses() int {
	return w.c.Chains * w.c.Cells
}

func (w *world) units() int {
	return w.c.Chains * w.c.Units
}

// call begins a call; nil, if the client has too many.
func (w *world) call(id, kind, address int, value string) *made {
	w.t.Helper()
	x := w.clients[id]
	var n int
	var e api.Errno
	switch kind {
	case anAppend:
		n, e = x.Append([]byte(value))
	case aRead:
		n, e = x.Read(address)
	case aFill:
		n, e = x.Fill(address)
	case aTrim:
		n, e = x.Trim(address)
	case aChange:
		n, e = x.Change(address)
	}
	if e == api.ErrCall {
		return nil
	}
	if e != api.OK {
		w.t.Fatalf("a call is refused: %d", e)
	}
	w.now++
	m := &made{id, n, entry{kind: kind, address: address, value: value, begin: w.now, end: never}}
	w.calls = append(w.calls, m)
	w.note(id)
	return m
}

// note looks for calls of a client that have ended.
func (w *world) note(id int) {
	w.t.Helper()
	w.now++
	for _, m := range w.calls {
		if m.client != id || m.end != never {
			continue
		}
		r, e := w.clients[id].Result(m.number)
		if e != api.OK {
			w.t.Fatalf("Result(%d) = %d", m.number, e)
		}
		if r.What != 0 {
			m.result, m.end = r, w.now
		}
	}
}

func (w *world) give(id, call, token int) {
	w.t.Helper()
	if e := w.clients[id].Give(call, token); e != api.OK {
		w.t.Fatalf("Give(%d, %d) = %d", call, token, e)
	}
	w.had[token] = true
	w.note(id)
}

// fresh gives a token that no append had; none that is an address, if there is
// none left.
func (w *world) fresh() int {
	for token := range w.addresses() {
		if !w.had[token] {
			return token
		}
	}
	return w.addresses()
}

// gather lets somebody give out.
func (w *world) gather(id int) int {
	var out []api.Packet
	if n, found := w.nodes[id]; found {
		out = n.Out()
		w.sure[id] = len(n.Image())
		if w.chosen != nil && id >= api.FirstVoter {
			w.watch(id)
		}
	} else {
		out = w.clients[id].Out()
		w.askedInOrder(id, out)
	}
	if len(out) > api.MaxOut {
		w.t.Errorf("%d gives out %d packets", id, len(out))
	}
	for _, p := range out {
		w.letters = append(w.letters, letter{id, p})
	}
	return len(out)
}

// askedInOrder: a client goes back to nothing that it has asked before: else nodes
// could not tell which answers it awaits no more. On each line it asks at most one
// thing at a time.
func (w *world) askedInOrder(id int, out []api.Packet) {
	w.t.Helper()
	now := map[line]bool{}
	for _, p := range out {
		q, ok := packets.ReadRequest(p.Data)
		at := line{id, p.To, q.Line}
		if !ok || q.Number < w.asked[at] || now[at] {
			w.t.Fatalf("client %d asks %+v of %d, behind %d", id, q, p.To, w.asked[at])
		}
		w.asked[at], now[at] = q.Number, true
	}
}

// all gives everybody who is there, in a rising order.
func (w *world) all() []int {
	var ids []int
	for _, id := range w.ids {
		if w.nodes[id] != nil {
			ids = append(ids, id)
		}
	}
	return append(ids, w.those()...)
}

func (w *world) those() []int {
	var ids []int
	for id := range w.clients {
		ids = append(ids, id)
	}
	slices.Sort(ids)
	return ids
}

func (w *world) hand(l letter) {
	w.t.Helper()
	if n := w.nodes[l.p.To]; n != nil {
		n.Receive(l.from, l.p.Data)
	}
	if x := w.clients[l.p.To]; x != nil {
		x.Receive(l.from, l.p.Data)
		w.note(l.p.To)
	}
}

// step has everybody give out, and hands in what passes; how much came out.
func (w *world) step(passes func(letter) bool) int {
	w.t.Helper()
	for _, id := range w.all() {
		w.gather(id)
	}
	letters := w.letters
	w.letters = nil
	if w.mixed {
		w.r.Shuffle(len(letters), func(i, j int) { letters[i], letters[j] = letters[j], letters[i] })
	}
	if w.rank != nil {
		slices.SortStableFunc(letters, func(a, b letter) int { return w.rank[a.from] - w.rank[b.from] })
	}
	for _, l := range letters {
		if passes == nil || passes(l) {
			w.hand(l)
		}
	}
	return len(letters)
}

// quiet steps until nothing comes out, which P11 and P13 have a bound for.
func (w *world) quiet(passes func(letter) bool) {
	w.t.Helper()
	for range 300 {
		if w.step(passes) == 0 {
			return
		}
	}
	w.t.Fatal("packets go on coming out")
}

// round is one of P13's.
func (w *world) round() {
	w.t.Helper()
	for _, id := range w.those() {
		x := w.clients[id]
		x.Tick()
		for range api.MaxCalls { // no call wants another one before its token was tried
			if wants := x.Wants(); len(wants) > 0 {
				w.give(id, wants[0], w.fresh())
			}
		}
	}
	w.quiet(nil)
}

// pending tells how many calls have not ended, of the clients that go on.
func (w *world) pending() int {
	count := 0
	for _, m := range w.calls {
		if m.end == never && w.clients[m.client] != nil {
			count++
		}
	}
	return count
}

// settle has rounds until nothing is pending.
func (w *world) settle() {
	w.t.Helper()
	for range 80 {
		if w.pending() == 0 {
			return
		}
		w.round()
	}
	w.t.Fatalf("behind 80 rounds %d calls are pending", w.pending())
}

// stop stops a node and gives what may be left of its image.
func (w *world) stop(id int) []byte {
	image := w.nodes[id].Image()
	size := w.sure[id] + w.r.Intn(len(image)-w.sure[id]+1)
	delete(w.nodes, id)
	return image[:size]
}

func (w *world) open(id int, image []byte) {
	w.t.Helper()
	w.nodes[id] = openNode(w.t, w.c, id, image)
	if got := w.nodes[id].Image(); !bytes.HasPrefix(image, got) || len(got) < w.sure[id] {
		w.t.Fatalf("node %d was opened from %v and has the image %v", id, image, got)
	}
}

// readAll has a client that comes new read all addresses.
func (w *world) readAll() {
	w.t.Helper()
	id := api.LastClient
	w.join(id)
	for address := range w.addresses() {
		if w.call(id, aRead, address, "") == nil {
			w.settle()
			w.call(id, aRead, address, "")
		}
	}
	w.settle()
}

func (w *world) isOneLog() bool {
	var entries []entry
	for _, m := range w.calls {
		entries = append(entries, m.entry)
	}
	return asOneLog(entries, w.addresses())
}

func (w *world) story() string {
	names := []string{"append", "read", "fill", "trim", "change"}
	var b bytes.Buffer
	for _, m := range w.calls {
		end := strconv.Itoa(m.end)
		if m.end == never {
			end = "never"
		}
		b.WriteString(strconv.Itoa(m.client) + " " + strconv.Itoa(m.begin) + ".." + end + " " + names[m.kind] + " " + strconv.Itoa(m.address) + " " + m.value +
			": " + strconv.Itoa(m.result.What) + " " + strconv.Itoa(m.result.Address) + " " + string(m.result.Value) + "\n")
	}
	return b.String()
}
