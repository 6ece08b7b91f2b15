package record

import "bytes"

// Image is what an object keeps as bytes: a record for each call that changed
// it. A call leaves at most one record, so that an image that was cut anywhere
// is never one of half a call.
type Image struct {
	data []byte
}

// Open has each call done again of which a record is whole in data. It is false,
// if data is no beginning of an image: a record that its call doesn't leave
// behind did not come from an object as this.
func (i *Image) Open(data []byte, shapes []Shape, again func(Record)) bool {
	records, ok := Split(data, shapes)
	for _, r := range records {
		before := len(i.data)
		again(r)
		if !bytes.Equal(i.data[before:], r.Append(nil)) {
			return false
		}
	}
	return ok
}

// Keep lays a record behind all the others.
func (i *Image) Keep(r Record) {
	i.data = r.Append(i.data)
}

// Bytes gives the image; it is the caller's.
func (i *Image) Bytes() []byte {
	return bytes.Clone(i.data)
}
