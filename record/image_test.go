package record_test

import (
	"bytes"
	"reflect"
	"testing"

	"furrow/record"
)

func kept(records []record.Record) []byte {
	var i record.Image
	for _, r := range records {
		i.Keep(r)
	}
	return i.Bytes()
}

func TestImageHasTheWholeRecordsDoneAgain(t *testing.T) {
	whole := kept(samples()[:3])
	for _, tail := range []int{0, 1, 2, 3, 50} {
		data := append(bytes.Clone(whole), kept(samples()[3:])[:tail]...)
		var i record.Image
		var done []record.Record
		again := func(r record.Record) {
			done = append(done, r)
			i.Keep(r)
		}
		if !i.Open(data, shapes, again) || !reflect.DeepEqual(done, samples()[:3]) || !bytes.Equal(i.Bytes(), whole) {
			t.Errorf("with a tail of %d bytes: done %v, the image %v", tail, done, i.Bytes())
		}
	}
}

func TestImageTakesNoRecordThatIsNotLeft(t *testing.T) {
	calls := map[string]func(i *record.Image, r record.Record){
		"leaves none":    func(*record.Image, record.Record) {},
		"leaves another": func(i *record.Image, r record.Record) { i.Keep(samples()[2]) },
		"leaves two":     func(i *record.Image, r record.Record) { i.Keep(r); i.Keep(r) },
	}
	for name, call := range calls {
		var i record.Image
		if i.Open(kept(samples()[:1]), shapes, func(r record.Record) { call(&i, r) }) {
			t.Errorf("a call that %s: the image was taken", name)
		}
	}
	var i record.Image
	if i.Open([]byte{2}, shapes, i.Keep) || len(i.Bytes()) != 0 {
		t.Errorf("bytes of no records became the image %v", i.Bytes())
	}
}
