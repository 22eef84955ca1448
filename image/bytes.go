package image

import (
	"girder/api"
	"girder/wire"
)

// number of any kind that stands in an image.
type number interface {
	~int | ~uint8 | ~uint16 | ~uint32 | ~uint64
}

// put a number in so many bytes.
func put[N number](n N, size int) string {
	return wire.Bytes(uint64(n), size)
}

// flags in a byte, the first one its lowest bit.
func flags(l ...bool) string {
	var n uint64
	for at, is := range l {
		if is {
			n = wire.With(n, at, 1, 1)
		}
	}
	return put(n, flagsSize)
}

// reader of a section's bytes.
type reader struct {
	*wire.Reader
	strange bool // some flag was none that there is
}

// newReader at the front of a section.
func newReader(data string) *reader {
	return &reader{Reader: wire.Read(data)}
}

// get a number of so many bytes.
func get[N number](r *reader, n *N, size int) {
	*n = N(r.Num(size))
}

// flags of a byte, the first one its lowest bit; others would make two images of one state.
func (r *reader) flags(l ...*bool) {
	n := r.Num(flagsSize)
	for at, is := range l {
		*is = wire.Field(n, at, 1) == 1
	}
	if n>>len(l) != 0 {
		r.strange = true
	}
}

// good: were there as many bytes as were read, and such flags alone as there are?
func (r *reader) good() bool {
	return r.End() == api.OK && !r.strange
}
