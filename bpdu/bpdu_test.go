package bpdu_test

import (
	"reflect"
	"strings"
	"testing"

	"girder/addr"
	"girder/api"
	"girder/bpdu"
	"girder/frame"
)

const (
	front      = "\x42\x42\x03\x00\x00"
	configHead = front + "\x00\x00"
	rapidHead  = front + "\x02\x02"
	change     = front + "\x00\x80"
	// what stands behind the flags: bytes that all differ
	rest = "\x81\x02\x03\x04\x05\x06\x07\x08" + "\x89\x0A\x0B\x0C" + "\x8D\x0E\x0F\x10\x11\x12\x13\x14" +
		"\x95\x16" + "\x97\x18" + "\x99\x1A" + "\x9B\x1C" + "\x9D\x1E"
	noughts = "\x00\x00\x00\x00\x00\x00\x00\x00" + "\x00\x00\x00\x00" + "\x00\x00\x00\x00\x00\x00\x00\x00" + "\x00\x00\x00\x00\x00\x00\x00\x00\x00\x00"
)

var (
	from = addr.MAC{2, 3, 4, 5, 6, 7}
	// sizes of the kinds' bytes
	sizes = map[uint8]int{bpdu.Config: 38, bpdu.Rapid: 39, bpdu.Change: 7}
)

// full is a PDU whose numbers are those of rest.
func full(kind uint8) bpdu.PDU {
	return bpdu.PDU{
		Kind: kind, Root: 0x8102030405060708, Cost: 0x890A0B0C, Bridge: 0x8D0E0F1011121314,
		Port: 0x9516, Age: 0x9718, MaxAge: 0x991A, Hello: 0x9B1C, Delay: 0x9D1E,
	}
}

// flagged is such a PDU with the flags of a byte, taken apart without shifts.
func flagged(kind, flags uint8) bpdu.PDU {
	on := func(weight uint8) bool { return flags/weight%2 == 1 }
	p := full(kind)
	p.Topology, p.Proposal, p.Learning, p.Forwarding = on(1), on(2), on(16), on(32)
	p.Agreement, p.Ack = on(64), on(128)
	p.Role = flags / 4 % 4
	return p
}

// least is a PDU of a kind that tells nothing.
func least(kind uint8) bpdu.PDU {
	return bpdu.PDU{Kind: kind}
}

// pairs of PDUs that there may be, and their bytes.
func pairs() map[string]bpdu.PDU {
	return map[string]bpdu.PDU{
		change:                                least(bpdu.Change),
		configHead + "\x00" + noughts:         least(bpdu.Config),
		rapidHead + "\x00" + noughts + "\x00": least(bpdu.Rapid),
		configHead + "\x00" + rest:            flagged(bpdu.Config, 0),
		configHead + "\x01" + rest:            flagged(bpdu.Config, 1),
		configHead + "\x80" + rest:            flagged(bpdu.Config, 0x80),
		configHead + "\x81" + rest:            flagged(bpdu.Config, 0x81),
		rapidHead + "\x00" + rest + "\x00":    flagged(bpdu.Rapid, 0),
		rapidHead + "\x2E" + rest + "\x00":    flagged(bpdu.Rapid, 0x2E),
		rapidHead + "\xFF" + rest + "\x00":    flagged(bpdu.Rapid, 0xFF),
		front + "\x02\x02\x7E" + strings.Repeat("\xFF", 30) + "\x00": {
			Kind: bpdu.Rapid, Proposal: true, Learning: true, Forwarding: true, Agreement: true, Role: bpdu.Designated,
			Root: 1<<64 - 1, Cost: 1<<32 - 1, Bridge: 1<<64 - 1, Port: 65535, Age: 65535, MaxAge: 65535, Hello: 65535, Delay: 65535,
		},
	}
}

// the names that layer 5 gives to kinds and roles.
func TestConstants(t *testing.T) {
	if bpdu.Config != 0 || bpdu.Rapid != 2 || bpdu.Change != 128 {
		t.Error("kinds", bpdu.Config, bpdu.Rapid, bpdu.Change)
	}
	if bpdu.Unknown != 0 || bpdu.Other != 1 || bpdu.Root != 2 || bpdu.Designated != 3 {
		t.Error("roles", bpdu.Unknown, bpdu.Other, bpdu.Root, bpdu.Designated)
	}
}

// the group of bridges.
func TestGroup(t *testing.T) {
	if got := bpdu.Group(); got != (addr.MAC{0x01, 0x80, 0xC2, 0, 0, 0}) {
		t.Errorf("Group = %x", got)
	}
}

// P5.1
func TestEncode(t *testing.T) {
	for want, p := range pairs() {
		if got, e := bpdu.Encode(p); got != want || e != api.OK {
			t.Errorf("Encode(%+v) = %x, %d, want %x, OK", p, got, e, want)
		}
	}
}

// P5.1
func TestDecode(t *testing.T) {
	for s, want := range pairs() {
		for _, behind := range []string{"", "\x00", "\x01", "\xFF\xFF", "padding", s} {
			if got, e := bpdu.Decode(s + behind); got != want || e != api.OK {
				t.Errorf("Decode(%x) = %+v, %d, want %+v, OK", s+behind, got, e, want)
			}
		}
	}
}

// P5.1: each flag has its bit, and each role its two.
func TestFlagsOneByOne(t *testing.T) {
	cases := map[byte]bpdu.PDU{
		0x01: {Topology: true},
		0x02: {Proposal: true},
		0x04: {Role: bpdu.Other},
		0x08: {Role: bpdu.Root},
		0x0C: {Role: bpdu.Designated},
		0x10: {Learning: true},
		0x20: {Forwarding: true},
		0x40: {Agreement: true},
		0x80: {Ack: true},
	}
	for flags, p := range cases {
		p.Kind = bpdu.Rapid
		want := rapidHead + string([]byte{flags}) + noughts + "\x00"
		if got, e := bpdu.Encode(p); got != want || e != api.OK {
			t.Errorf("Encode(%+v) = %x, %d, want %x, OK", p, got, e, want)
		}
		if got, e := bpdu.Decode(want); got != p || e != api.OK {
			t.Errorf("Decode(%x) = %+v, %d, want %+v, OK", want, got, e, p)
		}
	}
}

// unsent holds a PDU against the error that it should be refused with, bare and in a frame.
func unsent(t *testing.T, p bpdu.PDU) {
	t.Helper()
	if s, e := bpdu.Encode(p); s != "" || e != api.ErrKind {
		t.Errorf("Encode(%+v) = %x, %d, want nothing, ErrKind", p, s, e)
	}
	if f, e := bpdu.Wrap(from, p); f != (frame.Frame{}) || e != api.ErrKind {
		t.Errorf("Wrap(%+v) = %#v, %d, want a zero frame, ErrKind", p, f, e)
	}
}

// P5.1, P5.2
func TestEncodeOfNoKind(t *testing.T) {
	for kind := range 256 {
		if _, ok := sizes[uint8(kind)]; ok {
			continue
		}
		unsent(t, least(uint8(kind)))
		unsent(t, full(uint8(kind)))
	}
}

// P5.1, P5.2: a Config has two of the flags alone.
func TestEncodeOfConfigsFlags(t *testing.T) {
	for flags := range 256 {
		p := flagged(bpdu.Config, uint8(flags))
		if flags&0x7E != 0 {
			unsent(t, p)
			continue
		}
		want := configHead + string([]byte{byte(flags)}) + rest
		if s, e := bpdu.Encode(p); s != want || e != api.OK {
			t.Errorf("Encode(%+v) = %x, %d, want %x, OK", p, s, e, want)
		}
	}
	for role := 1; role < 256; role++ {
		p := full(bpdu.Config)
		p.Role = uint8(role)
		unsent(t, p)
	}
}

// P5.1, P5.2
func TestEncodeOfRapidsRoles(t *testing.T) {
	for role := range 256 {
		p := full(bpdu.Rapid)
		p.Role = uint8(role)
		if role > 3 {
			unsent(t, p)
			continue
		}
		if s, e := bpdu.Encode(p); e != api.OK || s[7] != byte(role*4) {
			t.Errorf("Encode(%+v) = %x, %d", p, s, e)
		}
	}
}

// P5.1, P5.2: a Change tells nothing else: each field in turn, at its least and its greatest.
func TestEncodeOfChangesFields(t *testing.T) {
	unsent(t, full(bpdu.Change))
	for i := 1; i < reflect.TypeFor[bpdu.PDU]().NumField(); i++ { // behind the kind itself
		for _, n := range []uint64{1, 1<<64 - 1} {
			p := least(bpdu.Change)
			field := reflect.ValueOf(&p).Elem().Field(i)
			if field.Kind() == reflect.Bool {
				field.SetBool(true)
			} else {
				spare := 64 - field.Type().Bits()
				field.SetUint(n << spare >> spare)
			}
			unsent(t, p)
		}
	}
}

// unread holds bytes against the error that they should be refused with, bare and in a frame.
func unread(t *testing.T, s string, want api.Errno) {
	t.Helper()
	if p, e := bpdu.Decode(s); p != (bpdu.PDU{}) || e != want {
		t.Errorf("Decode(%x) = %+v, %d, want a zero PDU, %d", s, p, e, want)
	}
	f := frame.Frame{Dst: bpdu.Group(), Src: from, Type: uint16(len(s)), Data: s}
	if p, e := bpdu.Open(f); p != (bpdu.PDU{}) || e != want {
		t.Errorf("Open of %x = %+v, %d, want a zero PDU, %d", s, p, e, want)
	}
}

// P5.1: fewer than seven bytes are too few, also where they are wrong.
func TestDecodeOfShortHead(t *testing.T) {
	for _, s := range []string{change, configHead, rapidHead, "wrong__", front + "\x01\x01", "\x00\x00\x00\x00\x00\x00\x00"} {
		for n := range 7 {
			unread(t, s[:n], api.ErrShort)
		}
	}
}

// P5.1: each of the first five bytes, at each other value, and ahead of each other error.
func TestDecodeOfWrongFront(t *testing.T) {
	for s := range pairs() {
		for at := range 5 {
			for turn := 1; turn < 256; turn++ {
				b := []byte(s)
				b[at] ^= byte(turn)
				unread(t, string(b), api.ErrForm)
			}
			b := []byte(s)
			b[at]++
			unread(t, string(b[:7]), api.ErrForm)
			b[6] = 1
			unread(t, string(b), api.ErrForm)
		}
	}
}

// P5.1: every version and every kind, told ahead of too few bytes and of wrong flags.
func TestDecodeOfEveryKind(t *testing.T) {
	versions := map[uint8]int{bpdu.Config: 0, bpdu.Rapid: 2, bpdu.Change: 0}
	for version := range 256 {
		for kind := range 256 {
			head := front + string([]byte{byte(version), byte(kind)})
			if v, ok := versions[uint8(kind)]; !ok || v != version {
				unread(t, head, api.ErrKind)
				unread(t, head+"\xFF"+rest+"\x01", api.ErrKind)
				continue
			}
			p, e := bpdu.Decode(head + "\x00" + rest + "\x00")
			want := full(uint8(kind))
			if kind == bpdu.Change {
				want = least(bpdu.Change)
			}
			if p != want || e != api.OK {
				t.Errorf("version %d, kind %d: %+v, %d, want %+v, OK", version, kind, p, e, want)
			}
		}
	}
}

// P5.1: fewer bytes than a kind has are too few, also where the flags are wrong.
func TestDecodeOfShortFields(t *testing.T) {
	for s, p := range pairs() {
		size := sizes[p.Kind]
		if len(s) != size {
			t.Fatalf("%x has %d bytes, want %d", s, len(s), size)
		}
		for n := 7; n < size; n++ {
			unread(t, s[:n], api.ErrShort)
		}
	}
	wrong := configHead + "\xFF" + rest
	for n := 7; n < len(wrong); n++ {
		unread(t, wrong[:n], api.ErrShort)
	}
}

// P5.1
func TestDecodeOfEveryFlag(t *testing.T) {
	for flags := range 256 {
		middle := string([]byte{byte(flags)}) + rest
		if flags&0x7E != 0 {
			unread(t, configHead+middle, api.ErrForm)
			unread(t, configHead+middle+"\x00", api.ErrForm)
		} else if p, e := bpdu.Decode(configHead + middle); p != flagged(bpdu.Config, uint8(flags)) || e != api.OK {
			t.Errorf("a Config with flags %x: %+v, %d", flags, p, e)
		}
		if p, e := bpdu.Decode(rapidHead + middle + "\x00"); p != flagged(bpdu.Rapid, uint8(flags)) || e != api.OK {
			t.Errorf("a Rapid with flags %x: %+v, %d", flags, p, e)
		}
	}
}

// P5.1: the byte behind a Rapid's fields is 00, whatever stands behind it.
func TestDecodeOfWrongEnd(t *testing.T) {
	for last := 1; last < 256; last++ {
		s := rapidHead + "\x00" + rest + string([]byte{byte(last)})
		unread(t, s, api.ErrForm)
		unread(t, s+"\x00", api.ErrForm)
	}
}

// P5.2
func TestWrap(t *testing.T) {
	for s, p := range pairs() {
		for _, src := range []addr.MAC{{}, from, bpdu.Group(), addr.FromInt(1<<48 - 1)} {
			want := frame.Frame{Dst: bpdu.Group(), Src: src, Type: uint16(sizes[p.Kind]), Data: s}
			f, e := bpdu.Wrap(src, p)
			if f != want || e != api.OK {
				t.Errorf("Wrap(%x, %+v) = %#v, %d, want %#v, OK", src, p, f, e, want)
			}
			if whole, e := frame.Encode(f); e != api.OK || len(whole) != api.MinFrame+len(s) {
				t.Errorf("%#v as bytes: %x, %d", f, whole, e)
			}
		}
	}
}

// unopened holds a frame against the error that it should be refused with.
func unopened(t *testing.T, f frame.Frame, want api.Errno) {
	t.Helper()
	if p, e := bpdu.Open(f); p != (bpdu.PDU{}) || e != want {
		t.Errorf("Open(%#v) = %+v, %d, want a zero PDU, %d", f, p, e, want)
	}
}

// wrapped is a frame with a Rapid PDU.
func wrapped() frame.Frame {
	return frame.Frame{Dst: bpdu.Group(), Src: from, Type: 39, Data: rapidHead + "\x2E" + rest + "\x00"}
}

// P5.2
func TestOpen(t *testing.T) {
	for s, p := range pairs() {
		for _, src := range []addr.MAC{{}, from, bpdu.Group()} {
			for _, behind := range []string{"", "\x00", "padding", strings.Repeat("\xFF", 1504)} {
				f := frame.Frame{Dst: bpdu.Group(), Src: src, Type: uint16(len(s)), Data: s + behind}
				if got, e := bpdu.Open(f); got != p || e != api.OK {
					t.Errorf("Open(%#v) = %+v, %d, want %+v, OK", f, got, e, p)
				}
			}
		}
	}
}

// P5.2
func TestOpenOfTagged(t *testing.T) {
	f := wrapped()
	f.Tagged = true
	unopened(t, f, api.ErrForm)
	f.Vid, f.Pcp, f.Dei = 1, 7, true
	unopened(t, f, api.ErrForm)
	f.Data = ""
	unopened(t, f, api.ErrForm)
}

// P5.2: all addresses a bit away from the group's, and more.
func TestOpenOfOtherAddress(t *testing.T) {
	for at := range 48 {
		f := wrapped()
		f.Dst = addr.FromInt(bpdu.Group().Int() ^ 1<<at)
		unopened(t, f, api.ErrForm)
		f.Data = ""
		unopened(t, f, api.ErrForm)
	}
	for _, m := range []addr.MAC{{}, from, {0, 0, 0, 0xC2, 0x80, 0x01}, addr.FromInt(1<<48 - 1)} {
		f := wrapped()
		f.Dst = m
		unopened(t, f, api.ErrForm)
	}
}

// P5.2: every Type: how many bytes of the data count.
func TestOpenOfEveryType(t *testing.T) {
	for kind := range 1 << 16 {
		f := wrapped()
		f.Type = uint16(kind)
		f.Data += strings.Repeat("d", 1461) // 1500 in all
		switch {
		case kind > 1500:
			unopened(t, f, api.ErrForm)
			f.Data = ""
			unopened(t, f, api.ErrForm) // ahead of too few bytes
		case kind < 39:
			unopened(t, f, api.ErrShort)
		default:
			if p, e := bpdu.Open(f); p != flagged(bpdu.Rapid, 0x2E) || e != api.OK {
				t.Errorf("Type %d: %+v, %d", kind, p, e)
			}
			f.Data = f.Data[:kind-1]
			unopened(t, f, api.ErrShort)
		}
	}
}

// P5.2: data shorter than its Type says is too short, also where it is wrong or holds a whole PDU.
func TestOpenOfShort(t *testing.T) {
	for _, data := range []string{"", "wrong__", change, front + "\x00\x01", front + "\x02\x80"} {
		unopened(t, frame.Frame{Dst: bpdu.Group(), Type: uint16(len(data) + 1), Data: data}, api.ErrShort)
	}
}

// P5.2: what stands behind Type's bytes can't mend what is in them.
func TestOpenOfCutPDU(t *testing.T) {
	for s := range pairs() {
		for n := range len(s) {
			unopened(t, frame.Frame{Dst: bpdu.Group(), Type: uint16(n), Data: s}, api.ErrShort)
		}
	}
}

// P5.3: each bit of each field.
func TestBackAndForth(t *testing.T) {
	for _, kind := range []uint8{bpdu.Config, bpdu.Rapid} {
		for at := range 64 {
			both(t, bpdu.PDU{Kind: kind, Root: 1 << at})
			both(t, bpdu.PDU{Kind: kind, Bridge: 1 << at})
			both(t, bpdu.PDU{Kind: kind, Cost: 1 << (at % 32)})
			for i, n := range []uint16{1 << (at % 16), ^uint16(0)} {
				both(t, bpdu.PDU{Kind: kind, Port: n})
				both(t, bpdu.PDU{Kind: kind, Age: n})
				both(t, bpdu.PDU{Kind: kind, MaxAge: n})
				both(t, bpdu.PDU{Kind: kind, Hello: n})
				both(t, bpdu.PDU{Kind: kind, Delay: n, Topology: i == 1, Ack: at == 63})
			}
		}
	}
	for flags := range 256 {
		both(t, flagged(bpdu.Rapid, uint8(flags)))
	}
	both(t, least(bpdu.Change))
}

// both ways back: of bytes, and of a frame as it comes off the wire.
func both(t *testing.T, p bpdu.PDU) {
	t.Helper()
	s, e := bpdu.Encode(p)
	if back, d := bpdu.Decode(s); back != p || e != api.OK || d != api.OK {
		t.Errorf("Decode of Encode(%+v) = %+v, %d, %d", p, back, e, d)
	}
	f, e := bpdu.Wrap(from, p)
	if back, d := bpdu.Open(f); back != p || e != api.OK || d != api.OK {
		t.Errorf("Open of Wrap(%+v) = %+v, %d, %d", p, back, e, d)
	}
	whole, _ := frame.Encode(f)
	f, _ = frame.Decode(whole + strings.Repeat("\x00", 60))
	if back, d := bpdu.Open(f); back != p || d != api.OK {
		t.Errorf("Open of Wrap(%+v) behind a wire = %+v, %d", p, back, d)
	}
}

// P5.1, P5.3, P1: any bytes are refused, or their front is what their PDU is told as.
func FuzzDecode(f *testing.F) {
	for s := range pairs() {
		f.Add(s)
		f.Add(s + "\x00")
		f.Add(s[:len(s)-1])
	}
	f.Fuzz(func(t *testing.T, s string) {
		p, e := bpdu.Decode(s)
		if e != api.OK {
			if p != (bpdu.PDU{}) || e != api.ErrShort && e != api.ErrForm && e != api.ErrKind {
				t.Errorf("Decode(%x) = %+v, %d", s, p, e)
			}
			return
		}
		back, e := bpdu.Encode(p)
		if e != api.OK || len(back) != sizes[p.Kind] || !strings.HasPrefix(s, back) {
			t.Errorf("Encode of Decode(%x) = %x, %d", s, back, e)
		}
	})
}
