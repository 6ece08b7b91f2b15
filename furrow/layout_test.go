package furrow_test

import (
	"math"
	"reflect"
	"slices"
	"testing"

	"furrow/api"
	"furrow/furrow"
)

// extremes are numbers that lie at and beyond the edges of what is asked.
var extremes = []int{
	math.MinInt, math.MinInt + 1, -1 << 32, -1000, -101, -48, -3, -2, -1, 0, 1, 2, 3, 4, 5, 6, 7,
	15, 16, 17, 47, 48, 49, 99, 100, 105, 255, 256, 1000, 1099, 1 << 31, 1 << 32, 1 << 62, math.MaxInt - 1, math.MaxInt,
}

func mayBe(c api.Config) bool {
	return slices.Contains([]int{1, 2, 3}, c.Chains) && slices.Contains([]int{1, 2, 3}, c.Units) &&
		slices.Contains([]int{1, 3, 5}, c.Voters) && c.Cells >= 1 && c.Cells <= 16
}

func config(chains, units, voters, cells int) api.Config {
	return api.Config{Chains: chains, Units: units, Voters: voters, Cells: cells}
}

// settings gives good settings, and the same with one of the numbers changed.
func settings() []api.Config {
	good := []api.Config{config(1, 1, 1, 1), config(2, 1, 3, 3), config(3, 3, 5, 16), config(1, 2, 3, 16), config(3, 2, 1, 1)}
	all := slices.Clone(good)
	for _, c := range good {
		for _, n := range extremes {
			all = append(all, config(n, c.Units, c.Voters, c.Cells), config(c.Chains, n, c.Voters, c.Cells),
				config(c.Chains, c.Units, n, c.Cells), config(c.Chains, c.Units, c.Voters, n))
		}
	}
	return append(all, api.Config{}, config(math.MaxInt, math.MaxInt, math.MaxInt, math.MaxInt))
}

func TestP3LocateExample(t *testing.T) {
	c := api.Config{Chains: 2, Units: 1, Voters: 1, Cells: 3}
	if chain, cell, e := furrow.Locate(c, 5); chain != 1 || cell != 2 || e != api.OK {
		t.Errorf("Locate(5) = %d, %d, %d", chain, cell, e)
	}
	if chain, cell, e := furrow.Locate(c, 6); chain != 0 || cell != 0 || e != api.ErrAddress {
		t.Errorf("Locate(6) = %d, %d, %d", chain, cell, e)
	}
}

// Each cell of each chain is met once, and in turn, so that a wrong rule can't
// hide behind a few lucky numbers.
func TestP3LocateGoesRoundTheChains(t *testing.T) {
	for _, c := range settings() {
		if !mayBe(c) {
			continue
		}
		address := 0
		for cell := range c.Cells {
			for chain := range c.Chains {
				gotChain, gotCell, e := furrow.Locate(c, address)
				if gotChain != chain || gotCell != cell || e != api.OK {
					t.Errorf("Locate(%v, %d) = %d, %d, %d", c, address, gotChain, gotCell, e)
				}
				address++
			}
		}
	}
}

func TestP3LocateErrorsInTheirOrder(t *testing.T) {
	for _, c := range settings() {
		for _, address := range extremes {
			want := api.OK
			if !mayBe(c) {
				want = api.ErrArg
			} else if address < 0 || address >= c.Chains*c.Cells {
				want = api.ErrAddress
			}
			chain, cell, e := furrow.Locate(c, address)
			if e != want || e != api.OK && (chain != 0 || cell != 0) {
				t.Errorf("Locate(%v, %d) = %d, %d, %d, want the error %d", c, address, chain, cell, e, want)
			}
		}
	}
}

func sameLayout(a, b [][]int) bool {
	return slices.EqualFunc(a, b, func(x, y []int) bool { return slices.Equal(x, y) })
}

func TestP3Next(t *testing.T) {
	two := [][]int{{0, 1}, {2, 3}}
	single := [][]int{{0}, {2}}
	for _, c := range []struct {
		name   string
		layout [][]int
		out    int
		sealed []int
		want   [][]int
		e      api.Errno
	}{
		{"the example", two, 1, []int{0, 3}, [][]int{{0}, {2, 3}}, api.OK},
		{"out alone is sealed", two, 1, []int{1, 3}, nil, api.ErrSeal},
		{"no unit of it", two, 7, []int{0, 3}, nil, api.ErrUnit},
		{"the chain's last", single, 0, []int{0, 2}, nil, api.ErrLast},
		{"the last of the second chain", single, 2, []int{0, 2}, nil, api.ErrLast},
		{"nothing left out", two, -1, []int{1, 2}, two, api.OK},
		{"nothing left out, of single units", single, -1, []int{2, 0}, single, api.OK},
		{"nothing left out, one chain unsealed", two, -1, []int{0, 1}, nil, api.ErrSeal},
		{"nothing left out, none sealed", two, -1, nil, nil, api.ErrSeal},
		{"the other chain unsealed", two, 0, []int{1}, nil, api.ErrSeal},
		{"all sealed", two, 2, []int{3, 2, 1, 0}, [][]int{{0, 1}, {3}}, api.OK},
		{"sealed twice, and others beside", two, 2, []int{3, 3, 9, -4, 0}, [][]int{{0, 1}, {3}}, api.OK},
		{"the order stays", [][]int{{6, 4, 5}}, 4, []int{5}, [][]int{{6, 5}}, api.OK},
		{"a number below -1 is a unit as any", [][]int{{-2, 3}}, -2, []int{3}, [][]int{{3}}, api.OK},
		{"a number below -1 that stands nowhere", two, -2, []int{0, 2}, nil, api.ErrUnit},
		{"ErrUnit goes ahead of ErrSeal", two, 9, nil, nil, api.ErrUnit},
		{"ErrLast goes ahead of ErrSeal", single, 0, nil, nil, api.ErrLast},
		{"last in a later chain", [][]int{{1, 2}, {1}}, 1, []int{2}, nil, api.ErrLast},
		{"last in an earlier chain", [][]int{{1}, {1, 2}}, 1, []int{2}, nil, api.ErrLast},
		{"in two chains", [][]int{{1, 2}, {3, 1}}, 1, []int{2, 3}, [][]int{{2}, {3}}, api.OK},
		{"twice in a chain", [][]int{{1, 2, 1}}, 1, []int{2}, [][]int{{2}}, api.OK},
		{"nothing else in a chain of two places", [][]int{{1, 1}}, 1, []int{1}, nil, api.ErrSeal},
		{"the unit -1 is not left out by -1", [][]int{{-1}, {-1, 5}}, -1, []int{-1}, [][]int{{-1}, {-1, 5}}, api.OK},
		{"a chain of no units", [][]int{{0, 1}, {}}, 0, []int{1}, nil, api.ErrSeal},
		{"a chain of no units, nothing left out", [][]int{nil}, -1, []int{0}, nil, api.ErrSeal},
		{"no chains", nil, -1, nil, nil, api.OK},
		{"no chains, but not nil", [][]int{}, -1, []int{}, nil, api.OK},
		{"no chains, a unit", nil, 0, []int{0}, nil, api.ErrUnit},
		{"numbers of any size", [][]int{{math.MinInt, math.MaxInt}}, math.MinInt, []int{math.MaxInt}, [][]int{{math.MaxInt}}, api.OK},
	} {
		got, e := furrow.Next(c.layout, c.out, c.sealed)
		if e != c.e || !sameLayout(got, c.want) || e != api.OK && len(got) != 0 {
			t.Errorf("%s: Next(%v, %d, %v) = %v, %d, want %v, %d", c.name, c.layout, c.out, c.sealed, got, e, c.want, c.e)
		}
	}
}

// roomy gives a list with spare room in which numbers stand that must stay.
func roomy(units ...int) []int {
	return append(slices.Clone(units), 70, 71, 72)[:len(units)]
}

func TestP2NextLeavesWhatIsHandedIn(t *testing.T) {
	for _, out := range []int{-1, 0, 1, 2, 3, 4, 9} {
		chains := append(make([][]int, 0, 4), roomy(0, 1, 2), roomy(3, 4), []int{80})[:2]
		sealed := roomy(1, 4, 2)
		furrow.Next(chains, out, sealed)
		want := [][]int{{0, 1, 2, 70, 71, 72}, {3, 4, 70, 71, 72}, {80}}
		got := [][]int{chains[0][:6], chains[1][:5], chains[:3][2]}
		if !sameLayout(got, want) || !slices.Equal(sealed[:6], []int{1, 4, 2, 70, 71, 72}) {
			t.Errorf("Next without %d left %v and %v", out, got, sealed[:6])
		}
	}
}

func TestP2NextGivesNewMemory(t *testing.T) {
	for _, out := range []int{-1, 1} {
		chains := [][]int{roomy(0, 1), roomy(2, 3), roomy(4, 5)}
		got, _ := furrow.Next(chains, out, []int{0, 2, 4})
		second := slices.Clone(got[1])
		fill(got[0])
		fill(got[2])
		if !slices.Equal(got[1], second) {
			t.Errorf("what was written into the chains beside has changed %v into %v", second, got[1])
		}
		fill(got[1])
		clear(got[:cap(got)])
		want := [][]int{{0, 1, 70, 71, 72}, {2, 3, 70, 71, 72}, {4, 5, 70, 71, 72}}
		for i, chain := range chains {
			if !slices.Equal(chain[:5], want[i]) {
				t.Errorf("what was written into the answer has changed chain %d into %v", i, chain[:5])
			}
		}
		again, _ := furrow.Next(chains, out, []int{0, 2, 4})
		if !slices.Equal(again[1], second) {
			t.Errorf("what was written into an answer has changed the next one into %v", again)
		}
	}
}

// fill overwrites a list and its spare room.
func fill[T int | byte](list []T) {
	list = list[:cap(list)]
	for i := range list {
		list[i] = 99
	}
}

func TestP1NextAtAllNumbers(t *testing.T) {
	lists := [][]int{nil, {}, {0}, {-1}, {0, 0}, {math.MinInt, -1, math.MaxInt}, extremes}
	for _, a := range lists {
		for _, b := range lists {
			for _, sealed := range lists {
				for _, out := range extremes {
					got, e := furrow.Next([][]int{a, b}, out, sealed)
					if want, wantE := plainNext([][]int{a, b}, out, sealed); e != wantE || !sameLayout(got, want) {
						t.Fatalf("Next(%v, %d, %v) = %v, %d, want %v, %d", [][]int{a, b}, out, sealed, got, e, want, wantE)
					}
				}
			}
		}
	}
}

// plainNext says the words of P3 one after the other.
func plainNext(layout [][]int, out int, sealed []int) ([][]int, api.Errno) {
	if out != -1 && !slices.Contains(slices.Concat(layout...), out) {
		return nil, api.ErrUnit
	}
	next := [][]int{}
	unsealed := false
	for _, chain := range layout {
		if out != -1 && reflect.DeepEqual(chain, []int{out}) {
			return nil, api.ErrLast
		}
		left := slices.DeleteFunc(slices.Clone(chain), func(u int) bool { return out != -1 && u == out })
		unsealed = unsealed || !slices.ContainsFunc(left, func(u int) bool { return slices.Contains(sealed, u) })
		next = append(next, left)
	}
	if unsealed {
		return nil, api.ErrSeal
	}
	return next, api.OK
}
