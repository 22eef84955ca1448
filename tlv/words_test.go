package tlv_test

import (
	"encoding/binary"
	"hash/crc32"
	"slices"
	"strings"
	"testing"

	"girder/api"
	"girder/tlv"
)

// parse as the words say, sentence by sentence.
func parse(s string) (uint8, []tlv.Section, api.Errno) {
	b := []byte(s)
	if len(b) < 13 {
		return 0, nil, api.ErrShort
	}
	if b[0] != 'G' || b[1] != 'R' || b[2] != 'D' || b[3] != 'R' {
		return 0, nil, api.ErrMagic
	}
	if b[4] != 1 && b[4] != 2 && b[4] != 3 {
		return 0, nil, api.ErrKind
	}
	says := int(binary.BigEndian.Uint32(b[5:9]))
	if len(b) < 13+says {
		return 0, nil, api.ErrShort
	}
	if len(b) > 13+says {
		return 0, nil, api.ErrLong
	}
	if crc32.ChecksumIEEE(b[:9+says]) != binary.LittleEndian.Uint32(b[9+says:]) {
		return 0, nil, api.ErrSum
	}
	l, err := sections(b[9 : 9+says])
	if err != api.OK {
		return 0, nil, err
	}
	return b[4], l, api.OK
}

// sections of some bytes, as the words say.
func sections(b []byte) ([]tlv.Section, api.Errno) {
	var l []tlv.Section
	for len(b) > 0 {
		if len(b) < 5 || int(binary.BigEndian.Uint32(b[1:5])) > len(b)-5 {
			return nil, api.ErrForm
		}
		end := 5 + int(binary.BigEndian.Uint32(b[1:5]))
		l = append(l, tlv.Section{Kind: b[0], Data: string(b[5:end])})
		b = b[end:]
	}
	for i, s := range l {
		for _, o := range l[i+1:] {
			if o.Kind <= s.Kind {
				return nil, api.ErrOrder
			}
		}
	}
	return l, api.OK
}

// asSaid: Parse tells what the words say; what it takes is built again as the same bytes.
func asSaid(t *testing.T, s string) api.Errno {
	t.Helper()
	v, l, err := tlv.Parse(s)
	if version, want, wrong := parse(s); v != version || !slices.Equal(l, want) || err != wrong {
		t.Fatalf("Parse of %x: %d, %v, %d, want %d, %v, %d", s, v, l, err, version, want, wrong)
	}
	if err != api.OK {
		return err
	}
	if again, err := tlv.Build(v, l); again != s || err != api.OK {
		t.Fatalf("Build of what Parse tells of %x: %x, %d", s, again, err)
	}
	return api.OK
}

// draw of numbers that come one behind the other, none by chance.
type draw uint64

// next number below a bound.
func (d *draw) next(bound int) int {
	*d = *d*6364136223846793005 + 1442695040888963407
	return int(uint64(*d>>33) % uint64(bound))
}

// sections, few of them, whose kinds rise.
func (d *draw) sections() []tlv.Section {
	var l []tlv.Section
	for kind := d.next(4); kind < 256 && len(l) < 8; kind += 1 + d.next(5) {
		if d.next(6) == 0 {
			break
		}
		data := make([]byte, d.next(10))
		for i := range data {
			data[i] = byte(d.next(256))
		}
		l = append(l, tlv.Section{Kind: uint8(kind), Data: string(data)})
	}
	return l
}

// spoil some bytes in one of many ways.
func (d *draw) spoil(s string) string {
	at := d.next(len(s) + 1)
	switch d.next(4) {
	case 0:
		return s[:at]
	case 1:
		return s[:at] + string([]byte{byte(d.next(6))}) + s[at:]
	case 2:
		return s[:at] + s[min(len(s), at+1+d.next(6)):]
	}
	at = min(at, max(0, len(s)-1))
	return s[:at] + string([]byte{byte(d.next(12))}) + s[min(len(s), at+1):]
}

// P21.1, P21.2: images, whole and spoilt, as they are, with the sum that goes with them, and with the length too.
func TestWords(t *testing.T) {
	var d draw
	met := map[api.Errno]int{}
	for range 40000 {
		version, l := uint8(1+d.next(3)), d.sections()
		s, err := tlv.Build(version, l)
		if v, m, wrong := tlv.Parse(s); err != api.OK || wrong != api.OK || v != version || !slices.Equal(m, l) {
			t.Fatalf("Parse of Build of %d, %v: %d, %v, %d", version, l, v, m, wrong)
		}
		met[asSaid(t, s)]++
		met[asSaid(t, d.spoil(s))]++
		met[asSaid(t, sealed(d.spoil(s[:len(s)-4])))]++
		met[asSaid(t, image(version, d.spoil(s[9:len(s)-4])))]++
		met[asSaid(t, image(version, d.spoil(d.spoil(s[9:len(s)-4]))))]++
	}
	for _, err := range []api.Errno{api.OK, api.ErrShort, api.ErrLong, api.ErrForm, api.ErrSum, api.ErrMagic, api.ErrKind, api.ErrOrder} {
		if met[err] < 100 {
			t.Errorf("the error %d was met %d times", err, met[err])
		}
	}
	if len(met) != 8 {
		t.Errorf("errors met: %v", met)
	}
}

// images that are turned, cut and lengthened.
func images(t *testing.T) []string {
	var l []string
	for version, of := range [][]tlv.Section{
		nil,
		{{1, ""}},
		{{1, "ab"}, {7, ""}},
		{{1, strings.Repeat("\x00", 14)}, {2, ""}, {3, ""}},
		{{1, image(1, section(1, "x"))}, {2, strings.Repeat("\xff", 9)}},
	} {
		s, err := tlv.Build(uint8(1+version%3), of)
		if err != api.OK {
			t.Fatalf("Build of %v: %d", of, err)
		}
		l = append(l, s)
	}
	return l
}

// P21.2: no beginning of an image is one, and none with bytes behind it.
func TestCutAndLengthened(t *testing.T) {
	var d draw
	for _, s := range images(t) {
		for n := range len(s) {
			refused(t, "a beginning", s[:n], api.ErrShort)
		}
		for n := 1; n < 300; n++ {
			refused(t, "noughts behind", s+strings.Repeat("\x00", n), api.ErrLong)
			refused(t, "bytes behind", s+strings.Repeat(string([]byte{byte(d.next(256))}), n), api.ErrLong)
		}
		refused(t, "the image behind", s+s, api.ErrLong)
		refused(t, "its own sum behind", sealed(s), api.ErrLong)
	}
}

// turn bits of some bytes from one on, counted byte by byte, the lowest of each first; none where some of them aren't there.
func turn(s string, at int, bits uint32) string {
	b := []byte(s)
	for i := range 32 {
		if bits&(1<<i) == 0 {
			continue
		}
		if at+i >= 8*len(b) {
			return ""
		}
		b[(at+i)/8] ^= 1 << ((at + i) % 8)
	}
	return string(b)
}

// P21.2: no image of which bits within 32 in a row are turned is one, wherever they stand.
func TestTurned(t *testing.T) {
	var d draw
	for _, s := range images(t) {
		for at := range 8 * len(s) {
			patterns := []uint32{1, 3, 5, 0xFF, 0xFFFF, 0x80000001, 0xFFFFFFFF, 0xEDB88320 | 1, 0xDB710641, 0xA5A5A5A5}
			for range 60 {
				patterns = append(patterns, uint32(d.next(1<<16)<<16|d.next(1<<16))|1)
			}
			for _, bits := range patterns {
				x := turn(s, at, bits)
				if x == "" {
					continue
				}
				if err := asSaid(t, x); err == api.OK {
					t.Fatalf("%x, turned by %x from the bit %d on, is taken", s, bits, at)
				}
			}
		}
	}
}
