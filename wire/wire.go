// Package wire is layer 1: numbers in bytes and in bits (shared/doc/01-wire.md).
package wire

import "girder/api"

const (
	maxSize = 8  // bytes of a number
	allBits = 64 // bits of a number
)

// goodSize tells whether a number may have so many bytes.
func goodSize(size int) bool {
	return size >= 1 && size <= maxSize
}

// Bytes of a number, the highest first.
func Bytes(n uint64, size int) string {
	if !goodSize(size) {
		return ""
	}
	b := make([]byte, size)
	for i := range size {
		b[size-1-i] = byte(n >> (8 * i))
	}
	return string(b)
}

// mask of width bits, the lowest one at a place; 0, where a number has no such bits.
func mask(at, width int) uint64 {
	if at < 0 || at >= allBits || width < 1 || width > allBits-at {
		return 0
	}
	return ^uint64(0) >> (allBits - width) << at
}

// Field of a number: some of its bits.
func Field(n uint64, at, width int) uint64 {
	m := mask(at, width)
	if m == 0 {
		return 0
	}
	return n & m >> at
}

// With: a number with some of its bits set to a value.
func With(n uint64, at, width int, v uint64) uint64 {
	m := mask(at, width)
	if m == 0 {
		return n
	}
	return n&^m | v<<at&m
}

// Reader of bytes, from the front on.
type Reader struct {
	rest  string
	short bool
}

// Read bytes.
func Read(s string) *Reader {
	return &Reader{rest: s}
}

// Num of so many bytes.
func (r *Reader) Num(size int) uint64 {
	if r == nil {
		return 0
	}
	if !goodSize(size) {
		r.short = true
		return 0
	}
	var n uint64
	for _, c := range []byte(r.Raw(size)) {
		n = n<<8 | uint64(c)
	}
	return n
}

// Raw bytes.
func (r *Reader) Raw(n int) string {
	if r == nil {
		return ""
	}
	if r.short || n < 0 || n > len(r.rest) {
		r.short = true
		return ""
	}
	s := r.rest[:n]
	r.rest = r.rest[n:]
	return s
}

// Left: how many bytes are left.
func (r *Reader) Left() int {
	if r == nil {
		return 0
	}
	return len(r.rest)
}

// End: were there enough bytes, and are none left?
func (r *Reader) End() api.Errno {
	switch {
	case r == nil || r.short:
		return api.ErrShort
	case r.rest != "":
		return api.ErrLong
	}
	return api.OK
}
