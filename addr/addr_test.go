package addr_test

import (
	"encoding/binary"
	"fmt"
	"math"
	"regexp"
	"strings"
	"testing"

	"girder/addr"
	"girder/api"
)

// addresses with bits at both ends, in the middle, in patterns, and none.
var addresses = []addr.MAC{
	{},
	{0, 0, 0, 0, 0, 1},
	{1, 0, 0, 0, 0, 0},
	{0x80, 0, 0, 0, 0, 0},
	{0, 0, 0, 0, 0, 0x80},
	{0, 0, 0xFF, 0, 0, 0},
	{1, 2, 3, 4, 5, 6},
	{0x01, 0x80, 0xC2, 0, 0, 0},
	{0x01, 0x80, 0xC2, 0, 0, 0x0F},
	{0x01, 0x80, 0xC2, 0, 0, 0x10},
	{0x9A, 0xBC, 0xDE, 0xF0, 0x12, 0x34},
	{0xFE, 0xFF, 0xFF, 0xFF, 0xFF, 0xFF},
	{0xFF, 0xFF, 0xFF, 0xFF, 0xFF, 0xFF},
}

// number of an address, by the library.
func number(m addr.MAC) uint64 {
	return binary.BigEndian.Uint64(append([]byte{0, 0}, m[:]...))
}

// P3.1
func TestInt(t *testing.T) {
	if got := (addr.MAC{1, 2, 3, 4, 5, 6}).Int(); got != 0x010203040506 {
		t.Errorf("Int = %x, want 010203040506", got)
	}
	if got := (addr.MAC{0xFF, 0xFF, 0xFF, 0xFF, 0xFF, 0xFF}).Int(); got != 1<<48-1 {
		t.Errorf("Int of the greatest address = %x", got)
	}
	for _, m := range addresses {
		if got := m.Int(); got != number(m) {
			t.Errorf("Int of %x = %x, want %x", m, got, number(m))
		}
	}
}

// P3.1
func TestFromInt(t *testing.T) {
	cases := []struct {
		n    uint64
		want addr.MAC
	}{
		{0, addr.MAC{}},
		{5, addr.MAC{0, 0, 0, 0, 0, 5}},
		{0x010203040506, addr.MAC{1, 2, 3, 4, 5, 6}},
		{1<<48 - 1, addr.MAC{0xFF, 0xFF, 0xFF, 0xFF, 0xFF, 0xFF}},
		{1 << 48, addr.MAC{}},
		{1<<48 + 7, addr.MAC{0, 0, 0, 0, 0, 7}},
		{0xFFFF010203040506, addr.MAC{1, 2, 3, 4, 5, 6}},
		{math.MaxUint64, addr.MAC{0xFF, 0xFF, 0xFF, 0xFF, 0xFF, 0xFF}},
	}
	for _, c := range cases {
		if got := addr.FromInt(c.n); got != c.want {
			t.Errorf("FromInt(%x) = %x, want %x", c.n, got, c.want)
		}
	}
	for _, m := range addresses {
		for _, over := range []uint64{0, 1 << 48, 0xABCD << 48, 0xFFFF << 48} {
			if got := addr.FromInt(over + number(m)); got != m {
				t.Errorf("FromInt(%x) = %x, want %x", over+number(m), got, m)
			}
		}
	}
	for at := range 48 {
		if got := addr.FromInt(1 << at).Int(); got != 1<<at {
			t.Errorf("the bit %d of a number comes back as %x", at, got)
		}
	}
}

// P3.1
func TestGroup(t *testing.T) {
	for first := range 256 {
		for _, other := range []byte{0, 1, 0xFF} {
			m := addr.MAC{byte(first), other, other, other, other, other}
			if got, want := m.Group(), first%2 == 1; got != want {
				t.Errorf("Group of %x = %t, want %t", m, got, want)
			}
		}
	}
}

// P3.1
func TestReserved(t *testing.T) {
	for last := range 256 {
		m := addr.MAC{0x01, 0x80, 0xC2, 0, 0, byte(last)}
		if got, want := m.Reserved(), last < 16; got != want {
			t.Errorf("Reserved of %x = %t, want %t", m, got, want)
		}
		for at := range 5 * 8 {
			u := m
			u[at/8] ^= 1 << (at % 8)
			if u.Reserved() {
				t.Errorf("%x is Reserved", u)
			}
		}
		if m[5] != byte(last) {
			t.Errorf("Reserved wrote into its address: %x", m)
		}
	}
	if (addr.MAC{}).Reserved() {
		t.Error("the zero address is Reserved")
	}
}

// P3.1
func TestShow(t *testing.T) {
	for m, want := range map[addr.MAC]string{
		{}:                                   "00:00:00:00:00:00",
		{0, 0, 0, 0, 0, 2}:                   "00:00:00:00:00:02",
		{0x01, 0x80, 0xC2, 0, 0, 0x0F}:       "01:80:c2:00:00:0f",
		{0x9A, 0xBC, 0xDE, 0xF0, 0x12, 0x34}: "9a:bc:de:f0:12:34",
		{255, 255, 255, 255, 255, 255}:       "ff:ff:ff:ff:ff:ff",
	} {
		if got := m.Show(); got != want {
			t.Errorf("Show of %x = %s, want %s", [6]byte(m), got, want)
		}
	}
	for c := range 256 {
		for place := range 6 {
			m := addr.MAC{9, 8, 7, 6, 5, 4}
			m[place] = byte(c)
			want := fmt.Sprintf("%02x:%02x:%02x:%02x:%02x:%02x", m[0], m[1], m[2], m[3], m[4], m[5])
			if got := m.Show(); got != want {
				t.Errorf("Show = %s, want %s", got, want)
			}
		}
	}
}

// refused holds a text against the error that it should be refused with.
func refused(t *testing.T, s string, want api.Errno) {
	t.Helper()
	if m, e := addr.Parse(s); e != want || m != (addr.MAC{}) {
		t.Errorf("Parse(%q) = %x, %d, want the zero address, %d", s, m, e, want)
	}
}

// P3.1
func TestParse(t *testing.T) {
	for s, want := range map[string]addr.MAC{
		"00:00:00:00:00:00": {},
		"01:80:c2:00:00:00": {0x01, 0x80, 0xC2, 0, 0, 0},
		"01:80:C2:00:00:0F": {0x01, 0x80, 0xC2, 0, 0, 0x0F},
		"9a:Bc:dE:F0:12:34": {0x9A, 0xBC, 0xDE, 0xF0, 0x12, 0x34},
		"ff:fF:Ff:FF:ff:FF": {255, 255, 255, 255, 255, 255},
	} {
		if m, e := addr.Parse(s); m != want || e != api.OK {
			t.Errorf("Parse(%s) = %x, %d, want %x, OK", s, m, e, want)
		}
	}
	m, _ := addr.Parse("01:80:c2:00:00:00")
	if !m.Group() || !m.Reserved() {
		t.Error("01:80:c2:00:00:00 isn't Group and Reserved")
	}
}

// P3.1
func TestParseOfShow(t *testing.T) {
	for _, m := range addresses {
		for _, s := range []string{m.Show(), strings.ToUpper(m.Show())} {
			if got, e := addr.Parse(s); got != m || e != api.OK {
				t.Errorf("Parse(%s) = %x, %d, want %x, OK", s, got, e, m)
			}
		}
	}
}

// P3.1: every byte at every place of a shown address.
func TestParseOfEveryByte(t *testing.T) {
	form := regexp.MustCompile(`^[0-9a-fA-F]{2}(:[0-9a-fA-F]{2}){5}\z`)
	const shown = "01:23:45:67:89:ab"
	for place := range len(shown) {
		for c := range 256 {
			s := shown[:place] + string([]byte{byte(c)}) + shown[place+1:]
			if !form.MatchString(s) {
				refused(t, s, api.ErrForm)
			} else if m, e := addr.Parse(s); m.Show() != strings.ToLower(s) || e != api.OK {
				t.Errorf("Parse(%s) = %s, %d", s, m.Show(), e)
			}
		}
	}
}

// P3.1
func TestParseOfWrongLength(t *testing.T) {
	const shown = "01:23:45:67:89:ab"
	for n := range len(shown) {
		refused(t, shown[:n], api.ErrForm)
		refused(t, strings.Repeat("0", n), api.ErrForm)
		refused(t, strings.Repeat("\x00", n), api.ErrForm)
	}
	for _, more := range []string{"0", ":", " ", "\n", "\x00", ":cd", shown, strings.Repeat("x", 100000)} {
		refused(t, shown+more, api.ErrLong)
		refused(t, more+shown, api.ErrLong)
	}
	refused(t, strings.Repeat("x", 18), api.ErrLong) // too long ahead of wrong
	refused(t, strings.Repeat("x", 17), api.ErrForm)
}

// P3.1
func TestParseOfWrongForm(t *testing.T) {
	for _, s := range []string{
		"01-23-45-67-89-ab",
		"0123.4567.89ab   ",
		"1:23:45:67:89:abc",
		"012:3:45:67:89:ab",
		":01:23:45:67:89:a",
		"01:23:45:67:89:a ",
		" 1:23:45:67:89:ab",
		"+1:23:45:67:89:ab",
		"0x:23:45:67:89:ab",
		"01:23:45:67:89:ag",
		"01:23:45:67:89:aG",
		"01::3:45:67:89:ab",
		"01:23:45:67:89:\xEF\xBC", // the beginning of a wide digit
		"01:23:45:67:\xC2\xB2:ab", // a digit that is none of these
		"\xFF\xFF\xFF\xFF\xFF\xFF\xFF\xFF\xFF\xFF\xFF\xFF\xFF\xFF\xFF\xFF\xFF",
		"01:23:45:67:89:ab"[:16] + "@",
		"01:23:45:67:89:ab"[:16] + "`",
		"01:23:45:67:89:ab"[:16] + "/",
	} {
		refused(t, s, api.ErrForm)
	}
}

// priorities at both ends, in the middle, and in patterns.
var priorities = []uint16{0, 1, 0x00FF, 0x7FFF, 0x8000, 0xA5C3, 0xFFFE, 0xFFFF}

// P3.2
func TestMakeID(t *testing.T) {
	if got := addr.MakeID(0x8000, addr.MAC{1, 2, 3, 4, 5, 6}); got != 0x8000010203040506 {
		t.Errorf("MakeID = %x, want 8000010203040506", uint64(got))
	}
	if got := addr.MakeID(0, addr.MAC{}); got != 0 {
		t.Errorf("MakeID of nothing = %x", uint64(got))
	}
	for _, p := range priorities {
		for _, m := range addresses {
			d := addr.MakeID(p, m)
			if want := uint64(p)<<48 + number(m); uint64(d) != want {
				t.Errorf("MakeID(%x, %x) = %x, want %x", p, m, uint64(d), want)
			}
			if d.Priority() != p || d.MAC() != m {
				t.Errorf("MakeID(%x, %x) is of %x, %x", p, m, d.Priority(), d.MAC())
			}
		}
	}
}

// P3.2: every number is an ID.
func TestIDOfNumber(t *testing.T) {
	if d := addr.ID(math.MaxUint64); d.Priority() != 0xFFFF || d.MAC() != (addr.MAC{255, 255, 255, 255, 255, 255}) {
		t.Errorf("the greatest ID is of %x, %x", d.Priority(), d.MAC())
	}
	for at := range 64 {
		d := addr.ID(1 << at)
		if got := addr.MakeID(d.Priority(), d.MAC()); got != d {
			t.Errorf("the ID %x comes back as %x", uint64(d), uint64(got))
		}
	}
}

// P3.2: a priority counts ahead of an address, and that from its first byte on.
func TestIDsInOrder(t *testing.T) {
	rising := []addr.ID{
		addr.MakeID(0, addr.MAC{}),
		addr.MakeID(0, addr.MAC{0, 0, 0, 0, 0, 255}),
		addr.MakeID(0, addr.MAC{0, 0, 0, 0, 1, 0}),
		addr.MakeID(0, addr.MAC{255, 255, 255, 255, 255, 255}),
		addr.MakeID(1, addr.MAC{}),
		addr.MakeID(0x8000, addr.FromInt(5)),
		addr.MakeID(0x8000, addr.FromInt(6)),
		addr.MakeID(0xFFFF, addr.MAC{}),
	}
	for i := 1; i < len(rising); i++ {
		if rising[i-1] >= rising[i] {
			t.Errorf("%x isn't below %x", uint64(rising[i-1]), uint64(rising[i]))
		}
	}
}
