package furrow_test

import (
	"math"
	"slices"
	"strings"
	"testing"

	"furrow/api"
)

// What a call is to do.
const (
	anAppend = iota
	aRead
	aFill
	aTrim
	aChange // of a unit, that stands where others have the address
)

// never is when a call ends that is pending for good.
const never = math.MaxInt

// entry is a call with its moments, and how it ended. A call that is pending has
// no result.
type entry struct {
	kind, address int
	value         string
	begin, end    int
	result        api.Result
}

func (e entry) pending() bool {
	return e.end == never
}

// tells gives the content that a read or a fill was told of.
func (e entry) tells() string {
	if e.result.What == api.Junk {
		return "junk"
	}
	return "data " + string(e.result.Value)
}

// oneLog is the log of P12: a content is "", "junk" or "data " with the value.
type oneLog struct {
	contents []string
	mark     int
	done     []bool
}

func (l oneLog) copied() oneLog {
	return oneLog{slices.Clone(l.contents), l.mark, slices.Clone(l.done)}
}

func (l oneLog) key() string {
	var b strings.Builder
	for _, d := range l.done {
		if d {
			b.WriteByte('x')
		} else {
			b.WriteByte('.')
		}
	}
	b.WriteByte(byte(l.mark))
	b.WriteString(strings.Join(l.contents, ","))
	return b.String()
}

// do does a call: whether it may be done now, ending as it did, and whether the
// log is another one behind it.
func (l *oneLog) do(e entry) (may, changes bool) {
	if e.kind == aTrim {
		changes = e.address > l.mark
		l.mark = max(l.mark, e.address)
		return true, changes
	}
	if e.address < l.mark {
		return e.kind != anAppend && (e.pending() || e.result.What == api.Trimmed), false
	}
	content := l.contents[e.address]
	switch {
	case e.kind == anAppend && content == "":
		l.contents[e.address] = "data " + e.value
		return true, true
	case e.kind == anAppend:
		return false, false
	case e.kind == aFill && content == "":
		l.contents[e.address] = "junk"
		return e.pending() || e.result.What == api.Junk, true
	case e.pending():
		return true, false
	case content == "" || e.result.What == api.Empty || e.result.What == api.Trimmed:
		return content == "" && e.result.What == api.Empty, false
	}
	return content == e.tells(), false
}

// hopeless tells whether a call can't be done any more, ending as it did.
func (l oneLog) hopeless(e entry) bool {
	if e.kind == aTrim || e.result.What == api.Trimmed {
		return false
	}
	content := l.contents[e.address]
	if e.address < l.mark {
		return true
	}
	if e.kind == anAppend || e.result.What == api.Empty {
		return content != ""
	}
	return content != "" && content != e.tells()
}

// search looks for an order of the calls. It is enough to do at once what may be
// done and changes nothing: it would not be hindered later, nor hinders others.
type search struct {
	entries []entry
	failed  map[string]bool
}

func (s *search) enabled(l oneLog) []int {
	first := never
	for i, e := range s.entries {
		if !l.done[i] {
			first = min(first, e.end)
		}
	}
	var all []int
	for i, e := range s.entries {
		if !l.done[i] && e.begin < first {
			all = append(all, i)
		}
	}
	return all
}

func (s *search) doQuiet(l *oneLog) bool {
	some := false
	for _, i := range s.enabled(*l) {
		if s.entries[i].pending() {
			continue
		}
		next := l.copied()
		if may, changes := next.do(s.entries[i]); may && !changes {
			l.done[i] = true
			some = true
		}
	}
	return some
}

func (s *search) found(l oneLog) bool {
	for s.doQuiet(&l) {
	}
	left := 0
	for i, e := range s.entries {
		if l.done[i] || e.pending() {
			continue
		}
		if l.hopeless(e) {
			return false
		}
		left++
	}
	key := l.key()
	if left == 0 || s.failed[key] {
		return left == 0
	}
	for _, i := range s.enabled(l) {
		next := l.copied()
		if may, changes := next.do(s.entries[i]); may && changes {
			next.done[i] = true
			if s.found(next) {
				return true
			}
		}
	}
	s.failed[key] = true
	return false
}

// asOneLog tells whether the calls are as P12 has it. Of an append that is
// pending, the address is known if somebody was told of its value; else it may
// as well never have been done.
func asOneLog(calls []entry, addresses int) bool {
	seen := map[string]int{}
	for _, e := range calls {
		if e.result.What == api.Data {
			seen[string(e.result.Value)] = e.address
		}
	}
	var s search
	for _, e := range calls {
		switch {
		case e.kind == aChange:
			continue
		case e.kind == anAppend && e.result.What == api.Full:
			continue
		case e.kind == anAppend && e.result.What == api.Done:
			e.address = e.result.Address
		case e.kind == anAppend:
			at, found := seen[e.value]
			if !found {
				continue
			}
			e.address = at
		case e.kind == aRead && e.pending():
			continue
		}
		s.entries = append(s.entries, e)
	}
	s.failed = map[string]bool{}
	return s.found(oneLog{contents: make([]string, addresses), done: make([]bool, len(s.entries))})
}

func ended(kind, address int, value string, begin, end int, r api.Result) entry {
	return entry{kind: kind, address: address, value: value, begin: begin, end: end, result: r}
}

// The tests of P12 are worth no more than this.
func TestTheOneLogIsToldFromOthers(t *testing.T) {
	done := func(a int) api.Result { return api.Result{What: api.Done, Address: a} }
	what := func(n int) api.Result { return api.Result{What: n} }
	said := func(v string) api.Result { return api.Result{What: api.Data, Value: []byte(v)} }
	cases := []struct {
		name  string
		calls []entry
		want  bool
	}{
		{"one behind the other", []entry{ended(anAppend, 0, "a", 1, 2, done(0)), ended(aRead, 0, "", 3, 4, said("a")), ended(aRead, 1, "", 5, 6, what(api.Empty))}, true},
		{"a read that missed an append", []entry{ended(anAppend, 0, "a", 1, 2, done(0)), ended(aRead, 0, "", 3, 4, what(api.Empty))}, false},
		{"a read beside an append", []entry{ended(anAppend, 0, "a", 1, 5, done(0)), ended(aRead, 0, "", 3, 4, what(api.Empty))}, true},
		{"a read ahead of its append", []entry{ended(aRead, 0, "", 1, 2, said("a")), ended(anAppend, 0, "a", 3, 5, done(0))}, false},
		{"back to nothing", []entry{ended(anAppend, 0, "a", 1, 9, done(0)), ended(aRead, 0, "", 2, 3, said("a")), ended(aRead, 0, "", 4, 5, what(api.Empty))}, false},
		{"two at one address", []entry{ended(anAppend, 0, "a", 1, 2, done(0)), ended(anAppend, 0, "b", 1, 2, done(0))}, false},
		{"one at two addresses", []entry{ended(anAppend, 0, "a", 1, 9, done(1)), ended(aRead, 0, "", 2, 3, said("a"))}, false},
		{"a value of nobody", []entry{ended(aRead, 0, "", 2, 3, said("a"))}, false},
		{"a pending append that was seen", []entry{ended(anAppend, 0, "a", 1, never, api.Result{}), ended(aRead, 1, "", 2, 3, said("a"))}, true},
		{"a pending append that was seen twice", []entry{ended(anAppend, 0, "a", 1, never, api.Result{}), ended(aRead, 1, "", 2, 3, said("a")), ended(aRead, 0, "", 2, 3, said("a"))}, false},
		{"junk of nobody", []entry{ended(aRead, 0, "", 2, 3, what(api.Junk))}, false},
		{"junk of a fill that found it trimmed", []entry{ended(aFill, 0, "", 1, 9, what(api.Trimmed)), ended(aRead, 0, "", 2, 3, what(api.Junk)), ended(aTrim, 1, "", 4, 5, done(0))}, false},
		{"junk of a pending fill", []entry{ended(aFill, 0, "", 1, never, api.Result{}), ended(aRead, 0, "", 2, 3, what(api.Junk))}, true},
		{"a fill over data", []entry{ended(anAppend, 0, "a", 1, 2, done(0)), ended(aFill, 0, "", 3, 4, what(api.Junk))}, false},
		{"a fill told of data", []entry{ended(anAppend, 0, "a", 1, 2, done(0)), ended(aFill, 0, "", 3, 4, said("a"))}, true},
		{"a trim that trims a part", []entry{ended(anAppend, 0, "a", 1, 2, done(1)), ended(aTrim, 2, "", 3, 20, done(0)), ended(aRead, 0, "", 4, 5, what(api.Trimmed)), ended(aRead, 1, "", 6, 7, said("a"))}, false},
		{"a pending trim", []entry{ended(aTrim, 2, "", 3, never, api.Result{}), ended(aRead, 1, "", 4, 5, what(api.Trimmed)), ended(aRead, 2, "", 6, 7, what(api.Empty))}, true},
		{"a trim of nobody", []entry{ended(aRead, 0, "", 4, 5, what(api.Trimmed))}, false},
		{"an append that is trimmed", []entry{ended(aTrim, 1, "", 1, 2, done(0)), ended(anAppend, 0, "a", 3, 4, done(0))}, false},
		{"an append ahead of the trim", []entry{ended(aTrim, 1, "", 1, 4, done(0)), ended(anAppend, 0, "a", 3, 6, done(0))}, true},
		{"a trim undone", []entry{ended(aTrim, 1, "", 1, 2, done(0)), ended(aRead, 0, "", 3, 4, what(api.Empty))}, false},
		{"full is nothing", []entry{ended(anAppend, 0, "a", 1, 2, what(api.Full)), ended(aRead, 0, "", 3, 4, what(api.Empty))}, true},
	}
	for _, c := range cases {
		if got := asOneLog(c.calls, 3); got != c.want {
			t.Errorf("%s: %v, want %v", c.name, got, c.want)
		}
	}
}
