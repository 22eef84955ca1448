package tlv_test

import (
	"encoding/binary"
	"hash/crc32"
	"slices"
	"strings"
	"testing"

	"girder/api"
	"girder/tlv"
)

const most = 1 << 24 // bytes of all sections that Build takes

// number in four bytes, the highest first.
func number(n int) string {
	return string(binary.BigEndian.AppendUint32(nil, uint32(n)))
}

// sealed: some bytes, with the sum behind them.
func sealed(s string) string {
	return s + string(binary.LittleEndian.AppendUint32(nil, crc32.ChecksumIEEE([]byte(s))))
}

// image of sections in bytes, whatever they are, with the length and the sum that go with them.
func image(version byte, all string) string {
	return sealed("GRDR" + string([]byte{version}) + number(len(all)) + all)
}

// section in bytes.
func section(kind byte, data string) string {
	return string([]byte{kind}) + number(len(data)) + data
}

// refused: beside the error all is zero.
func refused(t *testing.T, what, s string, want api.Errno) {
	t.Helper()
	if v, l, err := tlv.Parse(s); err != want || v != 0 || len(l) != 0 {
		t.Errorf("%s: Parse tells %d, %d sections, %d, want the error %d alone", what, v, len(l), err, want)
	}
}

// unbuilt: beside the error there is no image.
func unbuilt(t *testing.T, what string, version uint8, l []tlv.Section, want api.Errno) {
	t.Helper()
	if s, err := tlv.Build(version, l); err != want || s != "" {
		t.Errorf("%s: Build tells %d bytes, %d, want the error %d alone", what, len(s), err, want)
	}
}

// both ways: sections are built as those bytes, and these are parsed as the sections.
func bothWays(t *testing.T, version uint8, l []tlv.Section, want string) {
	t.Helper()
	if s, err := tlv.Build(version, l); err != api.OK || s != want {
		t.Errorf("Build of version %d, %d sections: %.60x (%d bytes), %d, want %.60x (%d bytes)", version, len(l), s, len(s), err, want, len(want))
	}
	v, m, err := tlv.Parse(want)
	if err != api.OK || v != version || !slices.Equal(m, l) {
		t.Errorf("Parse of %.60x (%d bytes): version %d, %d sections, %d, want version %d, %d sections", want, len(want), v, len(m), err, version, len(l))
	}
}

// P21.1, the example: 13 bytes, all spelt out.
func TestWithoutSections(t *testing.T) {
	for version, sum := range map[uint8]string{1: "\xfd\x5f\x9b\x87", 2: "\x2d\x25\x3b\xc0", 3: "\x9d\x0c\x5b\xfd"} {
		head := "GRDR" + string([]byte{version}) + "\x00\x00\x00\x00"
		if sealed(head) != head+sum {
			t.Errorf("version %d: the sum is %x", version, sealed(head)[len(head):])
		}
		bothWays(t, version, nil, head+sum)
		bothWays(t, version, []tlv.Section{}, head+sum)
	}
}

// P21.1: sections, all bytes of their image spelt out but for the sum.
func TestSections(t *testing.T) {
	for _, c := range []struct {
		version uint8
		l       []tlv.Section
		want    string
	}{
		{1, []tlv.Section{{}}, "GRDR\x01\x00\x00\x00\x05" + "\x00\x00\x00\x00\x00"},
		{2, []tlv.Section{{1, "ab"}, {7, ""}}, "GRDR\x02\x00\x00\x00\x0c" + "\x01\x00\x00\x00\x02ab" + "\x07\x00\x00\x00\x00"},
		{3, []tlv.Section{{1, ""}, {2, "GRDR"}, {255, "\x00"}}, "GRDR\x03\x00\x00\x00\x14" + "\x01\x00\x00\x00\x00" + "\x02\x00\x00\x00\x04GRDR" + "\xff\x00\x00\x00\x01\x00"},
		{3, []tlv.Section{{200, strings.Repeat("x", 258)}}, "GRDR\x03\x00\x00\x01\x07" + "\xc8\x00\x00\x01\x02" + strings.Repeat("x", 258)},
		{1, []tlv.Section{{9, strings.Repeat("\xfe", 65539)}}, "GRDR\x01\x00\x01\x00\x08" + "\x09\x00\x01\x00\x03" + strings.Repeat("\xfe", 65539)},
	} {
		bothWays(t, c.version, c.l, sealed(c.want))
	}
}

// P21.1: an image may be a section of another one, and all kinds may be in one.
func TestManySections(t *testing.T) {
	inner := image(2, section(4, "x"))
	bothWays(t, 1, []tlv.Section{{4, inner}, {5, inner}}, image(1, section(4, inner)+section(5, inner)))
	var l []tlv.Section
	all := ""
	for kind := range 256 {
		data := strings.Repeat(string([]byte{byte(kind)}), kind%7*kind)
		l = append(l, tlv.Section{Kind: uint8(kind), Data: data})
		all += section(byte(kind), data)
		bothWays(t, 3, l, image(3, all))
	}
}

// P21.1: which versions there are.
func TestVersions(t *testing.T) {
	for version := range 256 {
		l := []tlv.Section{{3, "abc"}}
		s := image(byte(version), section(3, "abc"))
		if version >= 1 && version <= 3 {
			bothWays(t, uint8(version), l, s)
			continue
		}
		unbuilt(t, "a version that is none", uint8(version), l, api.ErrKind)
		refused(t, "a version that is none", s, api.ErrKind)
	}
}

// P21.1: kinds rise, each once, wherever they stand.
func TestKinds(t *testing.T) {
	for a := range 256 {
		for b := range 256 {
			l := []tlv.Section{{uint8(a), "a"}, {uint8(b), ""}}
			s := image(2, section(byte(a), "a")+section(byte(b), ""))
			if a < b {
				bothWays(t, 2, l, s)
				continue
			}
			unbuilt(t, "kinds that don't rise", 2, l, api.ErrOrder)
			refused(t, "kinds that don't rise", s, api.ErrOrder)
		}
	}
	for _, kinds := range []string{"\x01\x02\x02", "\x01\x01\x02", "\x02\x01\x03", "\x01\x03\x02", "\x01\x02\x03\x04\x05\x07\x06", "\x05\x01\x02\x03\x04", "\x01\x02\x03\x01"} {
		var l []tlv.Section
		all := ""
		for _, kind := range []byte(kinds) {
			l = append(l, tlv.Section{Kind: kind, Data: "xy"})
			all += section(kind, "xy")
		}
		unbuilt(t, "kinds that don't rise", 3, l, api.ErrOrder)
		refused(t, "kinds that don't rise", image(3, all), api.ErrOrder)
	}
}

// P21.1: how many bytes all sections may have, with their kinds and their lengths.
func TestMost(t *testing.T) {
	data := strings.Repeat("0123456789abcdef", most/16)
	bothWays(t, 1, []tlv.Section{{1, data[5:]}}, image(1, section(1, data[5:])))
	unbuilt(t, "one byte more", 1, []tlv.Section{{1, data[4:]}}, api.ErrLong)
	unbuilt(t, "five bytes more", 1, []tlv.Section{{1, data}}, api.ErrLong)
	half := data[most/2:]
	bothWays(t, 2, []tlv.Section{{1, half[5:]}, {2, half[5:]}}, image(2, section(1, half[5:])+section(2, half[5:])))
	unbuilt(t, "one byte more in two", 2, []tlv.Section{{1, half[5:]}, {2, half[4:]}}, api.ErrLong)
	unbuilt(t, "an empty section more", 2, []tlv.Section{{0, ""}, {1, half[5:]}, {2, half[5:]}}, api.ErrLong)
	var l []tlv.Section
	for kind := range 256 {
		l = append(l, tlv.Section{Kind: uint8(kind), Data: data})
	}
	unbuilt(t, "as many as there can be", 3, l, api.ErrLong)
}

// P21.1: Parse asks for no such bound: images that nobody builds may have more.
func TestParseOfMore(t *testing.T) {
	data := strings.Repeat("0123456789abcdef", most/16)
	s := image(2, section(1, data)+section(8, data))
	v, l, err := tlv.Parse(s)
	if err != api.OK || v != 2 || !slices.Equal(l, []tlv.Section{{1, data}, {8, data}}) {
		t.Errorf("version %d, %d sections, %d", v, len(l), err)
	}
	unbuilt(t, "what Parse told", v, l, api.ErrLong)
}

// P21.1: of several errors of Build that which is named first.
func TestBuildOrder(t *testing.T) {
	data := strings.Repeat("x", most)
	wrong, long := []tlv.Section{{2, ""}, {1, ""}}, []tlv.Section{{1, data}}
	both := []tlv.Section{{1, data}, {1, data}}
	for _, version := range []uint8{0, 4, 255} {
		for _, l := range [][]tlv.Section{nil, wrong, long, both} {
			unbuilt(t, "version and more", version, l, api.ErrKind)
		}
	}
	unbuilt(t, "order", 1, wrong, api.ErrOrder)
	unbuilt(t, "length", 1, long, api.ErrLong)
	unbuilt(t, "order and length", 1, both, api.ErrOrder)
}

// P21.1: fewer bytes than any image has, whatever they are.
func TestTooShort(t *testing.T) {
	for _, s := range []string{image(1, ""), image(3, section(1, "abcdef")), image(9, ""), "XRDR\x01" + strings.Repeat("\xff", 20), strings.Repeat("\x00", 13)} {
		for n := range 13 {
			refused(t, "fewer than 13 bytes", s[:n], api.ErrShort)
		}
	}
}

// P21.1: each byte of the first four, turned in any way.
func TestMagic(t *testing.T) {
	s := image(1, section(1, "abc"))
	for at := range 4 {
		for turn := 1; turn < 256; turn++ {
			b := []byte(s)
			b[at] ^= byte(turn)
			refused(t, "no GRDR", string(b), api.ErrMagic)
			refused(t, "no GRDR, but its sum", sealed(string(b[:len(b)-4])), api.ErrMagic)
		}
	}
	refused(t, "small letters", sealed("grdr"+s[4:len(s)-4]), api.ErrMagic)
	refused(t, "13 bytes of nothing", strings.Repeat("\x00", 13), api.ErrMagic)
}

// P21.1: fewer and more bytes than are said, by any length.
func TestLengths(t *testing.T) {
	all := section(1, "abc") + section(2, "")
	for said, want := range map[int]api.Errno{
		0: api.ErrLong, 1: api.ErrLong, 8: api.ErrLong, 12: api.ErrLong, 13: api.OK,
		14: api.ErrShort, 17: api.ErrShort, 1 << 24: api.ErrShort, 1<<31 - 1: api.ErrShort, 1 << 31: api.ErrShort, 1<<32 - 1: api.ErrShort, 1<<32 - 4: api.ErrShort, 1<<32 - 13: api.ErrShort,
	} {
		s := sealed("GRDR\x01" + number(said) + all)
		if want == api.OK {
			bothWays(t, 1, []tlv.Section{{1, "abc"}, {2, ""}}, s)
			continue
		}
		refused(t, "another length than is said", s, want)
	}
	for n := 1; n < 30; n++ {
		refused(t, "13 bytes that say more", sealed("GRDR\x02"+number(n)), api.ErrShort)
	}
}

// P21.1: each bit of the sum, and sums that are none of all ahead of it.
func TestSum(t *testing.T) {
	for _, all := range []string{"", section(1, ""), section(7, "abcdefg")} {
		s := image(3, all)
		head := s[:len(s)-4]
		for bit := range 32 {
			b := []byte(s)
			b[len(head)+bit/8] ^= 1 << (bit % 8)
			refused(t, "another sum", string(b), api.ErrSum)
		}
		b := []byte(s)
		slices.Reverse(b[len(head):])
		refused(t, "the sum's highest byte first", string(b), api.ErrSum)
		refused(t, "no sum", head+"\x00\x00\x00\x00", api.ErrSum)
		refused(t, "the sum without what it is begun with", head+number(0), api.ErrSum)
		refused(t, "the sections' sum", head+sealed(all)[len(all):], api.ErrSum)
	}
}

// P21.1: sections that aren't whole, of each length that is left and each that is said.
func TestForm(t *testing.T) {
	for _, ahead := range []string{"", section(0, ""), section(1, "abc"), section(1, "") + section(2, "\x00")} {
		for n := 1; n < 5; n++ {
			refused(t, "fewer bytes than a section without any", image(1, ahead+strings.Repeat("\x00", n)), api.ErrForm)
			refused(t, "fewer bytes than a section without any", image(1, ahead+strings.Repeat("\x09", n)), api.ErrForm)
		}
		for _, has := range []int{0, 1, 2, 255, 256, 300} {
			data := strings.Repeat("x", has)
			for _, more := range []int{1, 2, 4, 5, 255, 65536, 1 << 24, 1<<31 - 1 - has, 1<<31 - has, 1<<32 - 1 - has} {
				refused(t, "a section that says more than there is", image(2, ahead+"\x09"+number(has+more)+data), api.ErrForm)
			}
		}
		refused(t, "a byte behind all sections", image(3, ahead+section(9, "abc")+"x"), api.ErrForm)
	}
}

// P21.1: of several errors of Parse that which is named first. Each step mends just one.
func TestParseOrder(t *testing.T) {
	all := section(2, "b") + section(1, "a")
	wrong := all + section(3, "c")[:5] // a section that isn't whole behind ones that don't rise
	refused(t, "all", "X"+strings.Repeat("\x00", 11), api.ErrShort)
	refused(t, "all but its length", "XRDR\x04"+number(100)+wrong+"none", api.ErrMagic)
	refused(t, "but for GRDR", "GRDR\x04"+number(100)+wrong+"none", api.ErrKind)
	refused(t, "but for the version", "GRDR\x03"+number(100)+wrong+"none", api.ErrShort)
	refused(t, "but for the version", "GRDR\x03"+number(1)+wrong+"none", api.ErrLong)
	refused(t, "but for the length", "GRDR\x03"+number(len(wrong))+wrong+"none", api.ErrSum)
	refused(t, "but for the sum", image(3, wrong), api.ErrForm)
	refused(t, "but for the form", image(3, all+section(3, "c")), api.ErrOrder)
	bothWays(t, 3, []tlv.Section{{1, "a"}, {2, "b"}, {3, "c"}}, image(3, section(1, "a")+section(2, "b")+section(3, "c")))
}

// P21.1: what is handed in stays as it is, the room behind it too; each answer is its own.
func TestKeepsNothing(t *testing.T) {
	l := []tlv.Section{{1, "ab"}, {2, ""}, {9, "behind"}}
	was := slices.Clone(l)
	s, err := tlv.Build(1, l[:2])
	if !slices.Equal(l, was) || err != api.OK {
		t.Errorf("Build changed %v to %v", was, l)
	}
	l[0].Data = "xy"
	_, first, _ := tlv.Parse(s)
	_, second, _ := tlv.Parse(s)
	first[0], first[1] = tlv.Section{Kind: 5}, tlv.Section{Kind: 6}
	if _, third, _ := tlv.Parse(s); !slices.Equal(second, was[:2]) || !slices.Equal(third, was[:2]) {
		t.Errorf("answers share memory: %v, %v", second, third)
	}
	if (tlv.Section{Kind: 1, Data: "a"}) != (tlv.Section{1, "a"}) || was[0] == was[1] {
		t.Error("sections are held against one another wrongly")
	}
}
