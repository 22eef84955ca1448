package migrate_test

import (
	"encoding/binary"
	"hash/crc32"
	"strings"
	"testing"

	"girder/addr"
	"girder/api"
	"girder/bridge"
	"girder/classify"
	"girder/count"
	"girder/fdb"
	"girder/image"
	"girder/migrate"
	"girder/record"
	"girder/static"
	"girder/vlan"
)

// has: how many sections a version has, at its place.
var has = [...]int{0, 3, 5, 7}

// long number in four bytes, the highest first.
func long(n int) string {
	return string(binary.BigEndian.AppendUint32(nil, uint32(n)))
}

// imageOf a version: its sections, of these bytes, from the kind 1 on.
func imageOf(version int, data []string) string {
	all := ""
	for i, s := range data {
		all += string([]byte{byte(i + 1)}) + long(len(s)) + s
	}
	s := "GRDR" + string([]byte{byte(version)}) + long(len(all)) + all
	return s + string(binary.LittleEndian.AppendUint32(nil, crc32.ChecksumIEEE([]byte(s))))
}

// zeros: so many bytes 0.
func zeros(n int) string {
	return strings.Repeat("\x00", n)
}

// bare sections 1 to 3, of so many ports, and with a VLAN.
func bare(ports int) []string {
	return []string{
		"\x80\x00\x00\x00\x00\x00\x00\x05" + "\x06\x01\x02\x04" + "\x00\x09",
		strings.Repeat("\x00\x01\x00\x0c\x00\x00\x00\x07\x08", ports),
		"\x00\x01\x00\x03\x00\x01",
	}
}

// entries: the sections 4 and 5, with some.
func entries() []string {
	return []string{
		"\x00\x01abcdef\x00\x05" + "\x00\x02abcdef\x00\x00",
		"\x00\x01pqrstu\x01\x00\x08",
	}
}

// ups: Up of an image tells another one, and the same state by it, as that state is written.
func ups(t *testing.T, what, b, want string) {
	t.Helper()
	got, err := migrate.Up(b)
	if got != want || err != api.OK {
		t.Fatalf("%s: Up of %x: %x, %d, want %x", what, b, got, err, want)
	}
	s, v, _ := image.Decode(b)
	x, w, err := image.Decode(got)
	if err != api.OK || w != v+1 || !record.Same(s, x) {
		t.Fatalf("%s: Decode of what Up tells: %+v, %d, %d, want %+v, %d", what, x, w, err, s, v+1)
	}
	if written, err := image.Encode(s, w); written != got || err != api.OK {
		t.Fatalf("%s: Encode in version %d: %x, %d, want %x", what, w, written, err, got)
	}
}

// goes: To a version tells another image.
func goes(t *testing.T, what, b string, version uint8, want string) {
	t.Helper()
	if got, err := migrate.To(b, version); got != want || err != api.OK {
		t.Fatalf("%s: To version %d of %x: %x, %d, want %x", what, version, b, got, err, want)
	}
}

// refused by both, to whatever version, with an error alone.
func refused(t *testing.T, what, b string, want api.Errno) {
	t.Helper()
	if got, err := migrate.Up(b); got != "" || err != want {
		t.Errorf("%s: Up tells %x, %d, want the error %d alone", what, got, err, want)
	}
	for _, version := range []uint8{0, 1, 2, 3, 4, 255} {
		if got, err := migrate.To(b, version); got != "" || err != want {
			t.Errorf("%s: To version %d tells %x, %d, want the error %d alone", what, version, got, err, want)
		}
	}
}

// allWays between the images of one state, in the versions from one on.
func allWays(t *testing.T, what string, from int, l ...string) {
	t.Helper()
	for i, b := range l {
		for j, want := range l {
			if j >= i {
				goes(t, what, b, uint8(from+j), want)
			}
		}
		if i > 0 {
			ups(t, what, l[i-1], b)
		}
	}
}

// P24.1, P24.2: each byte of what comes with a version, for as many ports as may be.
func TestUp(t *testing.T) {
	for n := range 17 {
		first := bare(n)
		second := append(bare(n), "", "")
		third := append(bare(n), "", "", zeros(1+30*n), zeros(56))
		allWays(t, "bare", 1, imageOf(1, first), imageOf(2, second), imageOf(3, third))
		if n == 0 {
			continue
		}
		second = append(bare(n), entries()...)
		third = append(append(bare(n), entries()...), zeros(1+30*n), zeros(56))
		allWays(t, "with entries", 2, imageOf(2, second), imageOf(3, third))
	}
}

// P24.1: versions that an image can't have, or that are elder than its own; its own is no change.
func TestVersions(t *testing.T) {
	data := append(append(bare(2), entries()...), zeros(61), zeros(56))
	for from := 1; from <= 3; from++ {
		b := imageOf(from, data[:has[from]])
		goes(t, "its own", b, uint8(from), b)
		for version := range 256 {
			if version >= from && version <= 3 {
				continue
			}
			if got, err := migrate.To(b, uint8(version)); got != "" || err != api.ErrKind {
				t.Errorf("version %d to %d: %x, %d, want the error 8 alone", from, version, got, err)
			}
		}
	}
	if got, err := migrate.Up(imageOf(3, data)); got != "" || err != api.ErrKind {
		t.Errorf("Up of version 3: %x, %d, want the error 8 alone", got, err)
	}
}

// P24.1: what layer 23 refuses, in each version, also where the version to go to is none.
func TestRefused(t *testing.T) {
	data := append(append(bare(2), entries()...), zeros(61), zeros(56))
	for version := 1; version <= 3; version++ {
		own := func(change func(l []string)) string {
			l := append([]string{}, data[:has[version]]...)
			change(l)
			return imageOf(version, l)
		}
		b := own(func([]string) {})
		for n := range len(b) {
			refused(t, "a beginning", b[:n], api.ErrShort)
		}
		refused(t, "bytes behind", b+"\x00", api.ErrLong)
		refused(t, "another image behind", b+b, api.ErrLong)
		for at := range len(b) {
			x := []byte(b)
			x[at] ^= 1 << (at % 8)
			if _, _, err := image.Decode(string(x)); err == api.OK {
				t.Errorf("version %d, turned at %d: it is taken", version, at)
			} else {
				refused(t, "turned", string(x), err)
			}
		}
		refused(t, "another version", imageOf(4, data[:has[version]]), api.ErrKind)
		refused(t, "a section less", imageOf(version, data[:has[version]-1]), api.ErrKind)
		refused(t, "a section more", imageOf(version, append(data[:has[version]:has[version]], "")), api.ErrKind)
		for i := range has[version] {
			refused(t, "a byte more", own(func(l []string) { l[i] += "\x00" }), api.ErrForm)
		}
		refused(t, "flags", own(func(l []string) { l[1] = strings.ReplaceAll(l[1], "\x0c", "\x1c") }), api.ErrForm)
		refused(t, "MaxAge", own(func(l []string) { l[0] = strings.ReplaceAll(l[0], "\x06", "\x05") }), api.ErrRange)
		refused(t, "Pvid", own(func(l []string) { l[1] = strings.ReplaceAll(l[1], "\x00\x01", "\x00\x00") }), api.ErrVlan)
		refused(t, "VLANs", own(func(l []string) { l[2] += l[2] }), api.ErrOrder)
		refused(t, "Untagged", own(func(l []string) { l[2] = "\x00\x01\x00\x03\x00\x04" }), api.ErrPort)
	}
	second := append([]string{}, data[:5]...)
	second[4] = strings.ReplaceAll(second[4], "\x01\x00\x08", "\x03\x00\x08")
	refused(t, "learnt port", imageOf(2, second), api.ErrPort)
	second[4] = strings.ReplaceAll(second[4], "\x03\x00\x08", "\x02\x00\x09")
	refused(t, "learnt age", imageOf(2, second), api.ErrRange)
	third := append([]string{}, data...)
	third[5] = "\x02" + third[5][1:]
	refused(t, "Beat", imageOf(3, third), api.ErrRange)
	third[5], third[1] = zeros(91), bare(2)[1]
	refused(t, "ports", imageOf(3, third), api.ErrForm)
	refused(t, "too many ports", imageOf(1, bare(17)), api.ErrPort)
}

// reached by a bridge with a station, a static entry, and how much was counted.
func reached(ports, ticks int) record.State {
	s := record.State{Config: record.Config{ID: 5, MaxAge: 6, Hello: 2, Delay: 3, Room: 4, Live: 9}, Vlans: []vlan.Vlan{{Vid: 1, Members: 0xFFFF}, {Vid: 7}}}
	for i := range ports {
		s.Ports = append(s.Ports, record.Port{Port: classify.Port{Pvid: 1, Accept: i % 3}, Cost: uint32(1 + i), Priority: i, Admin: true, Up: i != 2})
	}
	b := bridge.Load(s)
	b.Start()
	for range ticks {
		b.Tick()
	}
	b.Frame(1, "\x02\x00\x00\x00\x00\x01\x02\x00\x00\x00\x00\x02\x08\x00")
	b.SetStatic(static.Entry{Key: fdb.Key{Vid: 1, Mac: addr.FromInt(9)}, Ports: 5})
	return b.State()
}

// P24.2: states that bridges reach: what each version left of them is in each later one what that version leaves of it.
func TestReached(t *testing.T) {
	for ports := range 17 {
		for ticks := range 12 {
			s := reached(ports, ticks)
			for from := uint8(1); from <= 3; from++ {
				b, err := image.Encode(s, from)
				if err != api.OK {
					t.Fatalf("Encode of %+v: %d", s, err)
				}
				keeps := image.Lift(s, from)
				l := []string{b}
				for version := from + 1; version <= 3; version++ {
					next, _ := image.Encode(keeps, version)
					l = append(l, next)
				}
				allWays(t, "reached", int(from), l...)
			}
		}
	}
	last := reached(4, 9)
	if len(last.Fdb) != 1 || len(last.Static) != 1 || last.Counts == (count.Counts{}) || last.Beat == 0 {
		t.Errorf("nothing to be left out: %+v", last)
	}
}
