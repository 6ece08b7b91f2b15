// Package record lays records one behind the other as bytes, so that of any
// beginning of the bytes it can be told which records are whole.
package record

import (
	"bytes"
	"slices"
)

// The heading: a byte each for the kind, how many numbers, how long the value.
const (
	heading    = 3
	numberSize = 8
)

// Record has a kind of 0 to 255, and at most 255 numbers and bytes of value.
type Record struct {
	Kind    int
	Numbers []int
	Value   []byte
}

// Shape tells of a kind how many numbers its records have, and how many bytes
// their value has at most.
type Shape struct {
	Kind, Numbers, Value int
}

// Append lays the record behind data.
func (r Record) Append(data []byte) []byte {
	data = append(data, byte(r.Kind), byte(len(r.Numbers)), byte(len(r.Value)))
	for _, n := range r.Numbers {
		data = appendNumber(data, n)
	}
	return append(data, r.Value...)
}

// Split gives the records of data that are whole. It is false, if what stands
// in data can't be the beginning of records of these shapes.
func Split(data []byte, shapes []Shape) ([]Record, bool) {
	var records []Record
	for len(data) > 0 {
		fits := func(s Shape) bool { return s.begins(data) }
		if !slices.ContainsFunc(shapes, fits) {
			return nil, false
		}
		size, whole := measure(data)
		if !whole {
			break
		}
		records = append(records, read(data[:size]))
		data = data[size:]
	}
	return records, true
}

// begins looks at as much of the heading as is there: of a record that was cut
// off, that may be one byte.
func (s Shape) begins(data []byte) bool {
	return int(data[0]) == s.Kind &&
		(len(data) < 2 || int(data[1]) == s.Numbers) &&
		(len(data) < 3 || int(data[2]) <= s.Value)
}

// measure tells the size of the first record, if all of it is there.
func measure(data []byte) (int, bool) {
	if len(data) < heading {
		return 0, false
	}
	size := heading + int(data[1])*numberSize + int(data[2])
	return size, size <= len(data)
}

// read copies, so that a record never shares memory with what it came from.
func read(data []byte) Record {
	r := Record{Kind: int(data[0])}
	rest := data[heading:]
	for range int(data[1]) {
		r.Numbers = append(r.Numbers, number(rest[:numberSize]))
		rest = rest[numberSize:]
	}
	r.Value = bytes.Clone(rest)
	return r
}

func appendNumber(data []byte, n int) []byte {
	bits := uint64(n)
	for shift := (numberSize - 1) * 8; shift >= 0; shift -= 8 {
		data = append(data, byte(bits>>shift))
	}
	return data
}

func number(data []byte) int {
	var bits uint64
	for _, b := range data {
		bits = bits<<8 | uint64(b)
	}
	return int(bits)
}
