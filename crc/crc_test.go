package crc_test

import (
	"hash/crc32"
	"math"
	"strings"
	"testing"

	"girder/crc"
)

// texts of several lengths, with noughts at both ends and bytes of all bits among them.
func texts() []string {
	every := make([]byte, 256)
	for i := range every {
		every[i] = byte(i)
	}
	return []string{"", "\x00", "\x00\x00\x00\x00", "\xFF", "\xFF\xFF\xFF\xFF", "a", "abc", "123456789", "\x00abc", "abc\x00", string(every), strings.Repeat("girder", 1000)}
}

// P2.1
func TestMake(t *testing.T) {
	table := crc.Make()
	for i, want := range crc32.MakeTable(0xEDB88320) {
		if table[i] != want {
			t.Errorf("number %d is %08X, want %08X", i, table[i], want)
		}
	}
	if table[0] != 0 || table[1] != 0x77073096 || table[128] != 0xEDB88320 || table[255] != 0x2D02EF8D {
		t.Errorf("numbers 0, 1, 128, 255 are %08X %08X %08X %08X", table[0], table[1], table[128], table[255])
	}
}

// P2.1: a table that was written over spoils no other one.
func TestTablesAreApart(t *testing.T) {
	a, b := crc.Make(), crc.Make()
	for i := range a {
		a[i] = 7
	}
	if b != crc.Make() || b == a {
		t.Error("tables share their numbers")
	}
	if got := b.Sum("123456789"); got != 0xCBF43926 {
		t.Errorf("Sum = %08X, want CBF43926", got)
	}
}

// P2.1
func TestSum(t *testing.T) {
	table := crc.Make()
	cases := []struct {
		s    string
		want uint32
	}{
		{"123456789", 0xCBF43926},
		{"", 0},
		{"\x00", 0xD202EF8D},
		{"\x00\x00\x00\x00", 0x2144DF1C},
		{"\xFF\xFF\xFF\xFF", 0xFFFFFFFF},
		{"a", 0xE8B7BE43},
	}
	for _, c := range cases {
		if got := table.Sum(c.s); got != c.want {
			t.Errorf("Sum(%q) = %08X, want %08X", c.s, got, c.want)
		}
	}
	for _, s := range texts() {
		for range 2 { // a sum begins anew each time
			if got, want := table.Sum(s), crc32.ChecksumIEEE([]byte(s)); got != want {
				t.Errorf("Sum of %d bytes = %08X, want %08X", len(s), got, want)
			}
		}
	}
	if table != crc.Make() {
		t.Error("Sum wrote into its table")
	}
}

// P2.1
func TestSumOfEachByte(t *testing.T) {
	table := crc.Make()
	for i := range 256 {
		s := string([]byte{byte(i)})
		if got, want := table.Sum(s), crc32.ChecksumIEEE([]byte(s)); got != want {
			t.Errorf("Sum(%x) = %08X, want %08X", s, got, want)
		}
	}
}

// P2.1, P1
func TestSumOfNil(t *testing.T) {
	var table *crc.Table
	for _, s := range texts() {
		if got := table.Sum(s); got != 0 {
			t.Errorf("Sum of nil = %08X, want 0", got)
		}
	}
}

// slowTurn turns a text's bits one by one, as a list of noughts and ones.
func slowTurn(s string, at int, bits uint32) string {
	var list []byte
	for _, c := range []byte(s) {
		for i := range 8 {
			list = append(list, c/(1<<i)%2)
		}
	}
	for i := range 32 {
		if bits/(1<<i)%2 == 1 && at >= 0 && at < len(list)-i {
			list[at+i] = 1 - list[at+i]
		}
	}
	b := make([]byte, len(s))
	for i, v := range list {
		b[i/8] += v * (1 << (i % 8))
	}
	return string(b)
}

// patterns of bits: each one alone, ends, all, none, the sum's own polynomial, and many without a rule.
func patterns() []uint32 {
	l := []uint32{0, 3, 0x80000001, 0xC0000003, 0xFFFFFFFF, 0x7FFFFFFF, 0xFFFFFFFE, 0xEDB88320, 0x04C11DB7, 0xAAAAAAAA, 0x55555555, 0xFF, 0xFF00, 0xFF000000, 0x101}
	for i := range 32 {
		l = append(l, 1<<i)
	}
	r := uint32(1)
	for range 100 {
		r = r*1664525 + 1013904223
		l = append(l, r)
	}
	return l
}

// P2.2
func TestTurn(t *testing.T) {
	cases := []struct {
		s    string
		at   int
		bits uint32
		want string
	}{
		{"ab", 0, 1 | 1<<8, "\x60\x63"},
		{"ab", 7, 1, "\xE1b"},
		{"ab", 7, 3, "\xE1c"},
		{"ab", 15, 1, "a\xE2"},
		{"ab", 15, 3, "a\xE2"},
		{"ab", 16, 0xFFFFFFFF, "ab"},
		{"ab", 0, 0, "ab"},
		{"ab", 0, 0xFFFF0000, "ab"},
		{"ab", 0, 0xFFFFFFFF, "\x9E\x9D"},
		{"\x00\x00\x00\x00\x00\x00", 4, 0xFFFFFFFF, "\xF0\xFF\xFF\xFF\x0F\x00"},
		{"\x00\x00\x00\x00", 0, 1 << 31, "\x00\x00\x00\x80"},
		{"", 0, 0xFFFFFFFF, ""},
		{"", 5, 1, ""},
	}
	for _, c := range cases {
		if got := crc.Turn(c.s, c.at, c.bits); got != c.want {
			t.Errorf("Turn(%x, %d, %x) = %x, want %x", c.s, c.at, c.bits, got, c.want)
		}
	}
}

// P2.2
func TestTurnBitByBit(t *testing.T) {
	for _, s := range []string{"", "\x00", "\xFF", "ab", "\x00\xFFx\x80\x01", "123456789"} {
		for at := range 8*len(s) + 40 {
			for _, bits := range patterns() {
				got, want := crc.Turn(s, at, bits), slowTurn(s, at, bits)
				if got != want {
					t.Fatalf("Turn(%x, %d, %x) = %x, want %x", s, at, bits, got, want)
				}
				if back := crc.Turn(got, at, bits); back != s {
					t.Fatalf("Turn(%x, %d, %x) twice = %x", s, at, bits, back)
				}
			}
		}
	}
}

// P2.2: none of such a place's bits are bits, though some of them would fall on the text.
func TestTurnBeyond(t *testing.T) {
	const s = "123456789"
	for _, at := range []int{math.MinInt, math.MinInt + 31, -1 << 40, -1 << 32, -1 << 30, -33, -32, -31, -9, -8, -2, -1, 8 * len(s), 8*len(s) + 1, 1 << 29, 1<<30 - 1, 1 << 30, 1<<30 + 1, 1 << 31, 1 << 32, 1<<32 + 1, 1 << 40, math.MaxInt - 31, math.MaxInt} {
		for _, bits := range patterns() {
			if got := crc.Turn(s, at, bits); got != s {
				t.Errorf("Turn at %d of %x = %x, want it as it was", at, bits, got)
			}
		}
	}
}

// P2.2: the last place that counts is 2^30; just a text of more than 2^27 bytes has it.
func TestTurnAtTheLastPlace(t *testing.T) {
	s := strings.Repeat("\x00", 1<<27+8)
	got := crc.Turn(s, 1<<30, 1|1<<8)
	if len(got) != len(s) || got[1<<27-1:1<<27+3] != "\x00\x01\x01\x00" {
		t.Error("bits at 2^30 weren't turned")
	}
	if crc.Turn(s, 1<<30+1, 0xFFFFFFFF) != s {
		t.Error("bits at 2^30 + 1 were turned")
	}
}

// sealed is a text with its sum behind it, the lowest byte first.
func sealed(table *crc.Table, s string) string {
	sum := table.Sum(s)
	return s + string([]byte{byte(sum), byte(sum >> 8), byte(sum >> 16), byte(sum >> 24)})
}

// whole tells whether a text's last four bytes are the sum of those ahead of them.
func whole(table *crc.Table, s string) bool {
	return len(s) >= 4 && sealed(table, s[:len(s)-4]) == s
}

// P2.3
func TestTurnedIsTold(t *testing.T) {
	table := crc.Make()
	for _, s := range []string{"", "\x00", "a", "\x00\x00\x00\x00\x00", "\xFF\xFF\xFF\xFF", "123456789", "\x00\x01\x02\x03\x04\x05\x06\x07\x08\x09\x0A\x0B\x0C"} {
		full := sealed(&table, s)
		if !whole(&table, full) {
			t.Fatalf("%x with its sum isn't whole", s)
		}
		for at := range 8 * len(full) {
			for _, bits := range patterns() {
				if u := crc.Turn(s, at, bits); u != s && table.Sum(u) == table.Sum(s) {
					t.Errorf("%x and %x have one sum", s, u)
				}
				if u := crc.Turn(full, at, bits); u != full && whole(&table, u) {
					t.Errorf("%x turned to %x is whole still", full, u)
				}
			}
		}
	}
}

// P2.3: every burst of up to sixteen bits, at every place of a text and of its sum.
func TestEveryShortBurstIsTold(t *testing.T) {
	table := crc.Make()
	full := sealed(&table, "abc")
	for at := range 8 * len(full) {
		for bits := uint32(1); bits < 1<<16; bits += 2 {
			if u := crc.Turn(full, at, bits); u == full || whole(&table, u) {
				t.Fatalf("turned at %d by %x: %x", at, bits, u)
			}
		}
	}
}
