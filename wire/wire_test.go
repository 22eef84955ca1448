package wire_test

import (
	"encoding/binary"
	"math"
	"testing"

	"girder/api"
	"girder/wire"
)

// numbers with bits at both ends, in the middle, in patterns, and none.
var numbers = []uint64{0, 1, 2, 0x80, 0xABC, 0xFFFFFFFF, 1 << 32, 0x0102030405060708, 0x8000000000000001, 0xA5A5A5A5A5A5A5A5, 1 << 63, math.MaxUint64}

// oddInts are near the ends of what an int may be: sums of them wrap round.
var oddInts = []int{math.MinInt, math.MinInt + 1, math.MinInt + 63, math.MinInt + 64, math.MinInt32, -65, -64, -9, -8, -1, 0, 1, 8, 9, 63, 64, 65, math.MaxInt32, math.MaxInt - 64, math.MaxInt - 63, math.MaxInt - 1, math.MaxInt}

// P1.1
func TestBytes(t *testing.T) {
	cases := []struct {
		n    uint64
		size int
		want string
	}{
		{258, 2, "\x01\x02"},
		{258, 1, "\x02"},
		{258, 3, "\x00\x01\x02"},
		{0, 1, "\x00"},
		{0, 8, "\x00\x00\x00\x00\x00\x00\x00\x00"},
		{256, 1, "\x00"},
		{0x0102030405060708, 8, "\x01\x02\x03\x04\x05\x06\x07\x08"},
		{0x0102030405060708, 7, "\x02\x03\x04\x05\x06\x07\x08"},
		{0xFFFEFDFCFBFAF9F8, 4, "\xFB\xFA\xF9\xF8"},
		{math.MaxUint64, 8, "\xFF\xFF\xFF\xFF\xFF\xFF\xFF\xFF"},
	}
	for _, c := range cases {
		if got := wire.Bytes(c.n, c.size); got != c.want {
			t.Errorf("Bytes(%x, %d) = %x, want %x", c.n, c.size, got, c.want)
		}
	}
}

// P1.1
func TestBytesOfEverySize(t *testing.T) {
	for _, n := range numbers {
		whole := string(binary.BigEndian.AppendUint64(nil, n))
		for size := 1; size <= 8; size++ {
			if got := wire.Bytes(n, size); got != whole[8-size:] {
				t.Errorf("Bytes(%x, %d) = %x, want %x", n, size, got, whole[8-size:])
			}
		}
	}
}

// P1.1
func TestBytesOfNoSize(t *testing.T) {
	for _, size := range oddInts {
		if size >= 1 && size <= 8 {
			continue
		}
		if got := wire.Bytes(math.MaxUint64, size); got != "" {
			t.Errorf("Bytes of size %d = %x, want the empty text", size, got)
		}
	}
}

// good tells, without a sum that may wrap round, whether a number has such bits.
func good(at, width int) bool {
	return at >= 0 && at <= 63 && width >= 1 && width <= 64-at
}

func bit(n uint64, at int) uint64 {
	return n / (1 << at) % 2
}

// slowField gathers a number's bits one by one.
func slowField(n uint64, at, width int) uint64 {
	var v uint64
	if good(at, width) {
		for i := range width {
			v += bit(n, at+i) * (1 << i)
		}
	}
	return v
}

// slowWith sets a number's bits one by one.
func slowWith(n uint64, at, width int, v uint64) uint64 {
	if good(at, width) {
		for i := range width {
			n -= bit(n, at+i) * (1 << (at + i))
			n += bit(v, i) * (1 << (at + i))
		}
	}
	return n
}

// places calls f with every place and width that a number has, those just beyond, and odd ones.
func places(f func(at, width int)) {
	for at := -2; at <= 66; at++ {
		for width := -2; width <= 66; width++ {
			f(at, width)
		}
	}
	for _, at := range oddInts {
		for _, width := range oddInts {
			f(at, width)
		}
	}
}

// P1.1
func TestField(t *testing.T) {
	if got := wire.Field(0xABC, 4, 8); got != 0xAB {
		t.Errorf("Field(ABC, 4, 8) = %x, want AB", got)
	}
	if got := wire.Field(math.MaxUint64, 0, 64); got != math.MaxUint64 {
		t.Errorf("the whole of a number is %x", got)
	}
	if got := wire.Field(1<<63, 63, 1); got != 1 {
		t.Errorf("the highest bit is %x, want 1", got)
	}
	for _, n := range numbers {
		places(func(at, width int) {
			if got, want := wire.Field(n, at, width), slowField(n, at, width); got != want {
				t.Errorf("Field(%x, %d, %d) = %x, want %x", n, at, width, got, want)
			}
		})
	}
}

// P1.1
func TestFieldThatThereIsnt(t *testing.T) {
	for _, c := range [][2]int{{-1, 1}, {64, 1}, {0, 0}, {0, -1}, {0, 65}, {63, 2}, {1, 64}, {math.MaxInt, math.MaxInt}, {63, math.MaxInt}, {math.MinInt, 1}, {0, math.MinInt}} {
		if got := wire.Field(math.MaxUint64, c[0], c[1]); got != 0 {
			t.Errorf("Field at %d, width %d = %x, want 0", c[0], c[1], got)
		}
		if got := wire.With(0x1234, c[0], c[1], math.MaxUint64); got != 0x1234 {
			t.Errorf("With at %d, width %d = %x, want 1234", c[0], c[1], got)
		}
	}
}

// P1.1
func TestWith(t *testing.T) {
	cases := []struct {
		n         uint64
		at, width int
		v, want   uint64
	}{
		{0xABC, 4, 4, 0, 0xA0C},
		{0xABC, 4, 4, 0xFF1, 0xA1C},
		{0, 0, 1, 3, 1},
		{0, 63, 1, 3, 1 << 63},
		{math.MaxUint64, 0, 64, 5, 5},
		{math.MaxUint64, 8, 8, 0x100, 0xFFFFFFFFFFFF00FF},
	}
	for _, c := range cases {
		if got := wire.With(c.n, c.at, c.width, c.v); got != c.want {
			t.Errorf("With(%x, %d, %d, %x) = %x, want %x", c.n, c.at, c.width, c.v, got, c.want)
		}
	}
	for _, n := range numbers {
		for _, v := range numbers {
			places(func(at, width int) {
				if got, want := wire.With(n, at, width, v), slowWith(n, at, width, v); got != want {
					t.Errorf("With(%x, %d, %d, %x) = %x, want %x", n, at, width, v, got, want)
				}
			})
		}
	}
}

// look holds a reader against how many bytes should be left, and what End should answer.
func look(t *testing.T, r *wire.Reader, when string, left int, end api.Errno) {
	t.Helper()
	if got := r.Left(); got != left {
		t.Errorf("%s: Left = %d, want %d", when, got, left)
	}
	if got := r.End(); got != end {
		t.Errorf("%s: End = %d, want %d", when, got, end)
	}
}

// P1.2
func TestReader(t *testing.T) {
	r := wire.Read("\x01\x02\xFFabc\x00\x00")
	look(t, r, "new", 8, api.ErrLong)
	if got := r.Num(2); got != 258 {
		t.Errorf("Num(2) = %d, want 258", got)
	}
	if got := r.Num(1); got != 255 {
		t.Errorf("Num(1) = %d, want 255", got)
	}
	if got := r.Raw(3); got != "abc" {
		t.Errorf("Raw(3) = %q, want abc", got)
	}
	look(t, r, "on the way", 2, api.ErrLong)
	if got := r.Num(2); got != 0 {
		t.Errorf("Num of noughts = %d, want 0", got)
	}
	look(t, r, "at the end", 0, api.OK)
	look(t, r, "asked again", 0, api.OK)
}

// P1.2
func TestReaderOfNothing(t *testing.T) {
	r := wire.Read("")
	look(t, r, "new", 0, api.OK)
	if got := r.Raw(0); got != "" {
		t.Errorf("Raw(0) = %q", got)
	}
	look(t, r, "behind Raw(0)", 0, api.OK)
	if got := r.Raw(1); got != "" {
		t.Errorf("Raw(1) = %q", got)
	}
	look(t, r, "behind Raw(1)", 0, api.ErrShort)
}

// P1.2
func TestNumOfEverySize(t *testing.T) {
	for _, n := range numbers {
		for size := 1; size <= 8; size++ {
			s := wire.Bytes(n, size)
			r := wire.Read(s + s[:size-1])
			if got, want := r.Num(size), slowField(n, 0, 8*size); got != want {
				t.Errorf("Num(%d) of %x = %x, want %x", size, s, got, want)
			}
			if size > 1 {
				look(t, r, "ahead of too few bytes", size-1, api.ErrLong)
			}
			if got := r.Num(size); got != 0 {
				t.Errorf("Num(%d) of %d bytes = %x, want 0", size, size-1, got)
			}
			look(t, r, "behind too few bytes", size-1, api.ErrShort)
		}
	}
}

// P1.2
func TestNumOfNoSize(t *testing.T) {
	for _, size := range oddInts {
		if size >= 1 && size <= 8 {
			continue
		}
		r := wire.Read("123456789")
		if got := r.Num(size); got != 0 {
			t.Errorf("Num(%d) = %x, want 0", size, got)
		}
		look(t, r, "behind a size that is none", 9, api.ErrShort)
	}
}

// P1.2
func TestRawOfNoLength(t *testing.T) {
	for _, n := range oddInts {
		if n >= 0 && n <= 9 {
			continue
		}
		r := wire.Read("123456789")
		if got := r.Raw(n); got != "" {
			t.Errorf("Raw(%d) = %q, want the empty text", n, got)
		}
		look(t, r, "behind a length that is none", 9, api.ErrShort)
	}
}

// P1.2
func TestRawOfEveryLength(t *testing.T) {
	const s = "123456789"
	for n := range len(s) + 1 {
		r := wire.Read(s)
		if got := r.Raw(n); got != s[:n] {
			t.Errorf("Raw(%d) = %q, want %q", n, got, s[:n])
		}
		if got := r.Raw(0); got != "" {
			t.Errorf("Raw(0) = %q", got)
		}
		end := api.ErrLong
		if n == len(s) {
			end = api.OK
		}
		look(t, r, "behind Raw", len(s)-n, end)
		if got := r.Raw(len(s) - n); got != s[n:] {
			t.Errorf("the rest behind Raw(%d) = %q, want %q", n, got, s[n:])
		}
		look(t, r, "behind the rest", 0, api.OK)
	}
}

// P1.2: what makes a reader short, each followed by calls that would else have enough bytes.
func TestShortForGood(t *testing.T) {
	acts := []func(r *wire.Reader){
		func(r *wire.Reader) { r.Num(0) },
		func(r *wire.Reader) { r.Num(9) },
		func(r *wire.Reader) { r.Num(-1) },
		func(r *wire.Reader) { r.Num(5) },
		func(r *wire.Reader) { r.Raw(-1) },
		func(r *wire.Reader) { r.Raw(5) },
	}
	for i, act := range acts {
		r := wire.Read("\x01\x02\x03\x04")
		act(r)
		for range 2 {
			look(t, r, "short", 4, api.ErrShort)
			if n, s, none := r.Num(1), r.Raw(1), r.Raw(0); n != 0 || s != "" || none != "" {
				t.Errorf("act %d: a short reader reads %x, %q, %q", i, n, s, none)
			}
		}
		look(t, r, "still short", 4, api.ErrShort)
	}
}

// P1.2: bytes that a short reader can't reach aren't too many, and none left doesn't mend it.
func TestShortAheadOfLong(t *testing.T) {
	r := wire.Read("ab")
	r.Raw(2)
	look(t, r, "all read", 0, api.OK)
	r.Num(1)
	look(t, r, "one more", 0, api.ErrShort)
}

// P1.2
func TestReadersAreApart(t *testing.T) {
	const s = "abcd"
	a, b := wire.Read(s), wire.Read(s)
	a.Raw(3)
	a.Raw(3)
	look(t, a, "the one", 1, api.ErrShort)
	look(t, b, "the other one", 4, api.ErrLong)
	if got := b.Raw(4); got != s {
		t.Errorf("the other one reads %q, want %q", got, s)
	}
}

// P1.2, P1
func TestNilReader(t *testing.T) {
	var r *wire.Reader
	for _, n := range oddInts {
		if got := r.Num(n); got != 0 {
			t.Errorf("Num(%d) of nil = %x, want 0", n, got)
		}
		if got := r.Raw(n); got != "" {
			t.Errorf("Raw(%d) of nil = %q, want the empty text", n, got)
		}
	}
	look(t, r, "nil", 0, api.ErrShort)
}
