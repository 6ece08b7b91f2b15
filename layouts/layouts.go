// Package layouts tells which settings may be, where addresses and units lie,
// and which layout comes behind another one.
package layouts

import (
	"slices"

	"furrow/api"
)

// None is the unit to leave out where none is to be left out.
const None = -1

// Valid tells whether the settings may be.
func Valid(c api.Config) bool {
	return within(c.Chains, api.MaxChains) &&
		within(c.Units, api.MaxUnits) &&
		within(c.Voters, api.MaxVoters) && c.Voters%2 == 1 &&
		within(c.Cells, api.MaxCells)
}

func within(n, most int) bool {
	return n >= 1 && n <= most
}

// Locate tells the chain and the cell of an address.
func Locate(c api.Config, address int) (int, int, api.Errno) {
	if !Valid(c) {
		return 0, 0, api.ErrArg
	}
	if address < 0 || address >= c.Chains*c.Cells {
		return 0, 0, api.ErrAddress
	}
	return address % c.Chains, address / c.Chains, api.OK
}

// Chain tells in which chain of the first layout a unit stands.
func Chain(c api.Config, unit int) (int, api.Errno) {
	if !Valid(c) || unit < 0 || unit >= c.Chains*c.Units {
		return 0, api.ErrArg
	}
	return unit / c.Units, api.OK
}

// First gives the layout that has all units.
func First(c api.Config) [][]int {
	layout := make([][]int, c.Chains)
	for unit := range c.Chains * c.Units {
		chain := unit / c.Units
		layout[chain] = append(layout[chain], unit)
	}
	return layout
}

// Next gives the layout without the unit out (all of it, if that is None).
func Next(layout [][]int, out int, sealed []int) ([][]int, api.Errno) {
	if out != None {
		if e := leavable(layout, out); e != api.OK {
			return nil, e
		}
	}
	next := without(layout, out)
	if !eachHasOne(next, sealed) {
		return nil, api.ErrSeal
	}
	return next, api.OK
}

// leavable tells why a unit can't be left out, if it can't.
func leavable(layout [][]int, out int) api.Errno {
	stands, last := false, false
	for _, chain := range layout {
		here := slices.Contains(chain, out)
		stands = stands || here
		last = last || here && len(chain) == 1
	}
	if !stands {
		return api.ErrUnit
	}
	if last {
		return api.ErrLast
	}
	return api.OK
}

// without copies each chain into memory of its own, so that a caller may
// append to one and leave the others as they are.
func without(layout [][]int, out int) [][]int {
	next := make([][]int, len(layout))
	for i, chain := range layout {
		for _, unit := range chain {
			if out == None || unit != out {
				next[i] = append(next[i], unit)
			}
		}
	}
	return next
}

// All gives the units of a layout, chain by chain.
func All(layout [][]int) []int {
	return slices.Concat(layout...)
}

// Bytes gives a layout as bytes: its units, chain by chain.
func Bytes(layout [][]int) []byte {
	var data []byte
	for _, unit := range All(layout) {
		data = append(data, byte(unit))
	}
	return data
}

// Within reads the bytes of a layout that has come behind this one. It is false,
// if they are none: only units are left out, and never a chain's last.
func Within(layout [][]int, data []byte) ([][]int, bool) {
	later := make([][]int, len(layout))
	for i, chain := range layout {
		for _, unit := range chain {
			if len(data) > 0 && int(data[0]) == unit {
				later[i] = append(later[i], unit)
				data = data[1:]
			}
		}
		if len(later[i]) == 0 {
			return nil, false
		}
	}
	if len(data) > 0 {
		return nil, false
	}
	return later, true
}

// eachHasOne tells whether of each chain some unit is one of sealed.
func eachHasOne(layout [][]int, sealed []int) bool {
	set := make(map[int]struct{}, len(sealed))
	for _, unit := range sealed {
		set[unit] = struct{}{}
	}
	isSealed := func(unit int) bool {
		_, found := set[unit]
		return found
	}
	for _, chain := range layout {
		if !slices.ContainsFunc(chain, isSealed) {
			return false
		}
	}
	return true
}
