package layouts_test

import (
	"reflect"
	"testing"

	"furrow/api"
	"furrow/layouts"
)

var first = layouts.First(api.Config{Chains: 3, Units: 3, Voters: 1, Cells: 1})

// All layouts that come behind another one are read as they were written.
func TestLayoutsComeBackAsTheyWere(t *testing.T) {
	for left := range 1 << 9 {
		later := make([][]int, 3)
		for unit := range 9 {
			if left&(1<<unit) != 0 {
				later[unit/3] = append(later[unit/3], unit)
			}
		}
		whole := len(later[0]) > 0 && len(later[1]) > 0 && len(later[2]) > 0
		got, ok := layouts.Within(first, layouts.Bytes(later))
		if ok != whole || whole && !reflect.DeepEqual(got, later) {
			t.Errorf("%v has become %v, %v", later, got, ok)
		}
		if again, ok := layouts.Within(got, layouts.Bytes(first)); ok != (left == 1<<9-1) {
			t.Errorf("%v has become %v, %v, with units that were left out", first, again, ok)
		}
	}
}

func TestWhatIsNoLayoutIsNotRead(t *testing.T) {
	for _, data := range [][]byte{
		nil, {}, {0}, {0, 3}, {3, 6}, {0, 3, 6, 9}, {0, 0, 3, 6}, {1, 0, 3, 6}, {3, 0, 6}, {6, 3, 0},
		{0, 3, 6, 6}, {0, 3, 6, 255}, {9, 0, 3, 6}, make([]byte, 255),
	} {
		if got, ok := layouts.Within(first, data); ok || got != nil {
			t.Errorf("%v is read as %v", data, got)
		}
	}
}
