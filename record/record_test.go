package record_test

import (
	"bytes"
	"math"
	"reflect"
	"testing"

	"furrow/record"
)

var shapes = []record.Shape{{Kind: 1, Numbers: 1}, {Kind: 7, Numbers: 3, Value: 255}, {Kind: 255}}

func samples() []record.Record {
	return []record.Record{
		{Kind: 1, Numbers: []int{math.MinInt}, Value: []byte{}},
		{Kind: 7, Numbers: []int{math.MaxInt, -1, 1 << 40}, Value: []byte("value")},
		{Kind: 255, Value: []byte{}},
		{Kind: 7, Numbers: []int{0, 0, 0}, Value: bytes.Repeat([]byte{255}, 255)},
	}
}

func TestEveryBeginningGivesTheWholeRecords(t *testing.T) {
	var data []byte
	ends := []int{0}
	for _, r := range samples() {
		data = r.Append(data)
		ends = append(ends, len(data))
	}
	for size := range len(data) + 1 {
		var want []record.Record
		for i, r := range samples() {
			if ends[i+1] <= size {
				want = append(want, r)
			}
		}
		got, ok := record.Split(data[:size], shapes)
		if !ok || !reflect.DeepEqual(got, want) {
			t.Errorf("of %d bytes: %v, %v, want %v", size, got, ok, want)
		}
	}
}

func TestOtherShapesAreNoRecords(t *testing.T) {
	whole := samples()[0].Append(nil)
	for _, tail := range [][]byte{{0}, {2}, {1, 0}, {1, 2}, {1, 1, 1}, {7, 4, 0}, {255, 0, 1}, {255, 1}} {
		for _, data := range [][]byte{tail, append(bytes.Clone(whole), tail...), append(bytes.Clone(tail), whole...)} {
			if got, ok := record.Split(data, shapes); ok || got != nil {
				t.Errorf("Split(%v) = %v, %v", data, got, ok)
			}
		}
	}
}

func TestSplitSharesNothing(t *testing.T) {
	data := samples()[1].Append(nil)
	got, _ := record.Split(data, shapes)
	clear(data)
	if !reflect.DeepEqual(got, samples()[1:2]) {
		t.Errorf("the record has become %v", got)
	}
}
