package frame_test

import (
	"strings"
	"testing"

	"girder/addr"
	"girder/api"
	"girder/frame"
)

const (
	dst  = "\x01\x80\xC2\x00\x00\x0F"
	src  = "\x02\x03\x04\x05\x06\x07"
	both = dst + src
)

// plain is a frame without a tag, of two addresses that differ in each byte.
func plain() frame.Frame {
	return frame.Frame{
		Dst: addr.MAC{0x01, 0x80, 0xC2, 0x00, 0x00, 0x0F},
		Src: addr.MAC{0x02, 0x03, 0x04, 0x05, 0x06, 0x07},
	}
}

// tagged is such a frame with a tag.
func tagged(pcp uint8, dei bool, vid uint16) frame.Frame {
	f := plain()
	f.Tagged, f.Pcp, f.Dei, f.Vid = true, pcp, dei, vid
	return f
}

// with a type, and data.
func with(f frame.Frame, kind uint16, data string) frame.Frame {
	f.Type, f.Data = kind, data
	return f
}

// pairs of frames that there may be, and their bytes.
func pairs() map[string]frame.Frame {
	most := strings.Repeat("m", 1500)
	return map[string]frame.Frame{
		both + "\x08\x00":                                 with(plain(), 0x0800, ""),
		both + "\x08\x00hello":                            with(plain(), 0x0800, "hello"),
		both + "\x00\x00":                                 plain(),
		both + "\xFF\xFF\x00":                             with(plain(), 0xFFFF, "\x00"),
		both + "\x81\x01\x20\x05":                         with(plain(), 0x8101, "\x20\x05"),
		both + "\x80\x00":                                 with(plain(), 0x8000, ""),
		both + "\x00\x81\x00\x01":                         with(plain(), 0x0081, "\x00\x01"),
		both + "\x08\x00\x81\x00\x0F\xFF":                 with(plain(), 0x0800, "\x81\x00\x0F\xFF"),
		both + "\x05\xDC" + most + "mmmm":                 with(plain(), 1500, most+"mmmm"),
		both + "\x81\x00\x20\x05\x08\x00":                 with(tagged(1, false, 5), 0x0800, ""),
		both + "\x81\x00\x20\x05\x08\x00x":                with(tagged(1, false, 5), 0x0800, "x"),
		both + "\x81\x00\xB0\x09\x08\x00x":                with(tagged(5, true, 9), 0x0800, "x"),
		both + "\x81\x00\x00\x00\x00\x00":                 tagged(0, false, 0),
		both + "\x81\x00\xE0\x00\x00\x01":                 with(tagged(7, false, 0), 1, ""),
		both + "\x81\x00\x10\x00\x00\x01":                 with(tagged(0, true, 0), 1, ""),
		both + "\x81\x00\x0F\xFE\x00\x01":                 with(tagged(0, false, 4094), 1, ""),
		both + "\x81\x00\xFF\xFE\xFF\xFF":                 with(tagged(7, true, 4094), 0xFFFF, ""),
		both + "\x81\x00\x01\x00\x00\x01":                 with(tagged(0, false, 256), 1, ""),
		both + "\x81\x00\x00\x01\x81\x00\x00\x02\x08\x00": with(tagged(0, false, 1), 0x8100, "\x00\x02\x08\x00"),
		both + "\x81\x00\x00\x01\x81\x00":                 with(tagged(0, false, 1), 0x8100, ""),
		both + "\x81\x00\x00\x01\x08\x00" + most:          with(tagged(0, false, 1), 0x0800, most),
	}
}

// P4.1
func TestEncode(t *testing.T) {
	for want, f := range pairs() {
		if got, e := frame.Encode(f); got != want || e != api.OK {
			t.Errorf("Encode(%#v) = %x, %d, want %x, OK", f, got, e, want)
		}
	}
}

// P4.1
func TestDecode(t *testing.T) {
	for s, want := range pairs() {
		if got, e := frame.Decode(s); got != want || e != api.OK {
			t.Errorf("Decode(%x) = %#v, %d, want %#v, OK", s, got, e, want)
		}
	}
}

// unsent holds a frame against the error that it should be refused with.
func unsent(t *testing.T, f frame.Frame, want api.Errno) {
	t.Helper()
	if s, e := frame.Encode(f); s != "" || e != want {
		t.Errorf("Encode(%#v) = %x, %d, want nothing, %d", f, s, e, want)
	}
}

// P4.1
func TestEncodeOfWrongTag(t *testing.T) {
	for _, pcp := range []uint8{8, 9, 15, 16, 128, 255} {
		unsent(t, tagged(pcp, false, 1), api.ErrTag)
	}
	for _, vid := range []uint16{4095, 4096, 4097, 0x2005, 0x8000, 65535} {
		unsent(t, tagged(0, false, vid), api.ErrTag)
	}
	unsent(t, tagged(8, true, 4095), api.ErrTag)
	for _, f := range []frame.Frame{tagged(1, false, 0), tagged(255, false, 0), tagged(0, true, 0), tagged(0, false, 1), tagged(0, false, 4094), tagged(0, false, 65535), tagged(7, true, 4094), with(tagged(0, false, 0), 0x8100, "")} {
		f.Tagged = false
		unsent(t, f, api.ErrTag)
	}
}

// P4.1: every Pcp and every Vid, with and without Dei.
func TestEncodeOfEveryTag(t *testing.T) {
	for pcp := range 256 {
		for vid := range 1 << 16 {
			if pcp > 8 && vid > 1 {
				break
			}
			f := tagged(uint8(pcp), vid%3 == 0, uint16(vid))
			if pcp > 7 || vid > 4094 {
				unsent(t, f, api.ErrTag)
				continue
			}
			s, e := frame.Encode(f)
			word := pcp<<13 | vid
			if f.Dei {
				word |= 1 << 12
			}
			if e != api.OK || s != both+"\x81\x00"+string([]byte{byte(word >> 8), byte(word)})+"\x00\x00" {
				t.Fatalf("Encode(%#v) = %x, %d", f, s, e)
			}
		}
	}
}

// P4.1
func TestEncodeOfLong(t *testing.T) {
	for n, want := range map[int]api.Errno{1503: api.OK, 1504: api.OK, 1505: api.ErrLong, 1506: api.ErrLong, 1518: api.ErrLong, 1 << 20: api.ErrLong} {
		data := strings.Repeat("d", n)
		if s, e := frame.Encode(with(plain(), 1, data)); e != want || want == api.OK && len(s) != 14+n || want != api.OK && s != "" {
			t.Errorf("without a tag, %d bytes of data: %d bytes, %d, want %d", n, len(s), e, want)
		}
	}
	for n, want := range map[int]api.Errno{1499: api.OK, 1500: api.OK, 1501: api.ErrLong, 1504: api.ErrLong, 1505: api.ErrLong, 1 << 20: api.ErrLong} {
		data := strings.Repeat("d", n)
		if s, e := frame.Encode(with(tagged(1, true, 1), 1, data)); e != want || want == api.OK && len(s) != 18+n || want != api.OK && s != "" {
			t.Errorf("with a tag, %d bytes of data: %d bytes, %d, want %d", n, len(s), e, want)
		}
	}
}

// P4.1: a wrong tag is told ahead of a wrong length.
func TestEncodeOfWrongAndLong(t *testing.T) {
	long := strings.Repeat("d", 1505)
	unsent(t, with(plain(), 0x8100, long), api.ErrTag)
	unsent(t, with(tagged(8, false, 1), 1, long), api.ErrTag)
	unsent(t, with(tagged(0, false, 4095), 1, long), api.ErrTag)
}

// unread holds bytes against the error that they should be refused with.
func unread(t *testing.T, s string, want api.Errno) {
	t.Helper()
	if f, e := frame.Decode(s); f != (frame.Frame{}) || e != want {
		t.Errorf("Decode(%x) = %#v, %d, want a zero frame, %d", s, f, e, want)
	}
}

// P4.1
func TestDecodeOfShort(t *testing.T) {
	const bare = both + "\x08\x00"
	for n := range len(bare) {
		unread(t, bare[:n], api.ErrShort)
	}
	const full = both + "\x81\x00\x20\x05\x08\x00"
	for n := range len(full) {
		unread(t, full[:n], api.ErrShort)
	}
}

// P4.1
func TestDecodeOfLong(t *testing.T) {
	for _, head := range []string{both + "\x08\x00", both + "\x81\x00\x20\x05\x08\x00", both + "\x81\x00\x0F\xFF\x08\x00"} {
		for _, n := range []int{1519, 1520, 1522, 1 << 20} {
			unread(t, head+strings.Repeat("d", n-len(head)), api.ErrLong)
		}
	}
	for _, head := range []string{both + "\x08\x00", both + "\x81\x00\x20\x05\x08\x00"} {
		for _, n := range []int{1517, 1518} {
			data := strings.Repeat("d", n-len(head))
			if f, e := frame.Decode(head + data); e != api.OK || f.Data != data {
				t.Errorf("%d bytes: %d, %d bytes of data", n, e, len(f.Data))
			}
		}
	}
}

// P4.1
func TestDecodeOfWrongTag(t *testing.T) {
	for _, high := range []string{"\x0F", "\x1F", "\x2F", "\x8F", "\xFF"} {
		head := both + "\x81\x00" + high + "\xFF"
		unread(t, head, api.ErrShort) // too few bytes ahead of a wrong tag
		unread(t, head+"\x08", api.ErrShort)
		unread(t, head+"\x08\x00", api.ErrTag)
		unread(t, head+"\x08\x00hello", api.ErrTag)
		unread(t, head+"\x81\x00\x00\x01\x08\x00", api.ErrTag)
		unread(t, head+strings.Repeat("d", 1500), api.ErrTag)
		unread(t, head+strings.Repeat("d", 1502), api.ErrTag)
		unread(t, head+strings.Repeat("d", 1503), api.ErrLong) // too many ahead of it, too
	}
}

// P4.1, P4.2: every tag that two bytes may be.
func TestEveryTagRead(t *testing.T) {
	for word := range 1 << 16 {
		s := both + "\x81\x00" + string([]byte{byte(word >> 8), byte(word)}) + "\x12\x34abc"
		if word%4096 == 4095 {
			unread(t, s, api.ErrTag)
			continue
		}
		want := with(tagged(uint8(word/8192), word/4096%2 == 1, uint16(word%4096)), 0x1234, "abc")
		f, e := frame.Decode(s)
		if f != want || e != api.OK {
			t.Fatalf("Decode(%x) = %#v, %d, want %#v, OK", s, f, e, want)
		}
		if back, e := frame.Encode(f); back != s || e != api.OK {
			t.Fatalf("Encode of Decode(%x) = %x, %d", s, back, e)
		}
	}
}

// P4.1, P4.2: every type, behind the addresses and behind a tag.
func TestEveryType(t *testing.T) {
	for kind := range 1 << 16 {
		word := string([]byte{byte(kind >> 8), byte(kind)})
		for _, f := range []frame.Frame{with(plain(), uint16(kind), "abcd"), with(tagged(3, true, 7), uint16(kind), "abcd")} {
			if !f.Tagged && kind == 0x8100 {
				unsent(t, f, api.ErrTag)
				continue
			}
			s, e := frame.Encode(f)
			if e != api.OK || !strings.HasSuffix(s, word+"abcd") {
				t.Fatalf("Encode(%#v) = %x, %d", f, s, e)
			}
			if back, e := frame.Decode(s); back != f || e != api.OK {
				t.Fatalf("Decode of Encode(%#v) = %#v, %d", f, back, e)
			}
		}
	}
}

// P4.2
func TestBackAndForth(t *testing.T) {
	for at := range 48 {
		for _, f := range []frame.Frame{{Dst: addr.FromInt(1 << at)}, {Src: addr.FromInt(1 << at), Tagged: true, Vid: 1}} {
			s, _ := frame.Encode(f)
			if back, e := frame.Decode(s); back != f || e != api.OK {
				t.Errorf("Decode of Encode(%#v) = %#v, %d", f, back, e)
			}
		}
	}
	for n := range api.MaxFrame + 3 {
		for _, front := range []string{both + "\x08\x00", both + "\x81\x00\x20\x05\x08\x00", "", "\x81\x00"} {
			s := (front + strings.Repeat("\x81\x00\x0F", n/3+1))[:n]
			f, e := frame.Decode(s)
			if e != api.OK {
				unread(t, s, e)
			} else if back, e := frame.Encode(f); back != s || e != api.OK {
				t.Errorf("Encode of Decode(%x) = %x, %d", s, back, e)
			}
		}
	}
}

// P4.2: any bytes are refused, or come back.
func FuzzDecode(f *testing.F) {
	for s := range pairs() {
		f.Add(s)
	}
	f.Fuzz(func(t *testing.T, s string) {
		v, e := frame.Decode(s)
		if e != api.OK {
			unread(t, s, e)
		} else if back, e := frame.Encode(v); back != s || e != api.OK {
			t.Errorf("Encode of Decode(%x) = %x, %d", s, back, e)
		}
	})
}
