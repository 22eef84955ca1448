// Package crc is layer 2: a sum (CRC-32 of IEEE 802.3), by a table that is handed on (shared/doc/02-crc.md).
package crc

const (
	poly   = 0xEDB88320 // the sum's polynomial, the lowest power's bit highest
	start  = 0xFFFFFFFF // turned at the beginning and at the end, so that noughts in front count
	maxBit = 1 << 30    // no bits are turned from a place beyond
)

// Table of what each byte turns.
type Table [256]uint32

// Make the table.
func Make() Table {
	var t Table
	for i := range t {
		t[i] = shift(uint32(i))
	}
	return t
}

// shift a byte's bits out, one by one: what do they turn?
func shift(r uint32) uint32 {
	for range 8 {
		low := r & 1
		r >>= 1
		if low == 1 {
			r ^= poly
		}
	}
	return r
}

// Sum of a text.
func (t *Table) Sum(s string) uint32 {
	if t == nil {
		return 0
	}
	r := uint32(start)
	for i := range len(s) {
		r = r>>8 ^ t[byte(r)^s[i]]
	}
	return r ^ start
}

// Turn bits of a text, from a place on.
func Turn(s string, at int, bits uint32) string {
	if at < 0 || at > maxBit {
		return s
	}
	b := []byte(s)
	for i := range 32 {
		place := (at + i) / 8
		if bits>>i&1 == 1 && place < len(b) {
			b[place] ^= 1 << ((at + i) % 8)
		}
	}
	return string(b)
}
