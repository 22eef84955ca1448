package image_test

import (
	"encoding/binary"
	"hash/crc32"
	"math"
	"reflect"
	"slices"
	"strings"
	"testing"

	"girder/addr"
	"girder/api"
	"girder/classify"
	"girder/count"
	"girder/fdb"
	"girder/image"
	"girder/ports"
	"girder/record"
	"girder/static"
	"girder/vector"
	"girder/vlan"
)

// has: how many sections a version has, at its place.
var has = [...]int{0, 3, 5, 7}

// long number in four bytes, the highest first.
func long(n int) string {
	return string(binary.BigEndian.AppendUint32(nil, uint32(n)))
}

// section in bytes.
func section(kind byte, data string) string {
	return string([]byte{kind}) + long(len(data)) + data
}

// sealed: an image of sections in bytes, with the length and the sum that go with them.
func sealed(version byte, all string) string {
	s := "GRDR" + string([]byte{version}) + long(len(all)) + all
	return s + string(binary.LittleEndian.AppendUint32(nil, crc32.ChecksumIEEE([]byte(s))))
}

// imageOf a version: its sections, of these bytes, from the kind 1 on.
func imageOf(version int, data []string) string {
	all := ""
	for i, s := range data {
		all += section(byte(i+1), s)
	}
	return sealed(byte(version), all)
}

// The numbers of the full state.
const (
	self   = 0x1122334455667788
	top    = 0x0102030405060708
	near   = 0x2122232425262728
	farOff = 0x5152535455565758
	cost   = 0x01020304
	heard  = 0x11121314
)

// The places of the full state's ports.
const (
	root = iota
	waiting
	agreed
	learning
	alternate
	backup
	down
	shut
	places
)

// key of a VLAN and an address' number.
func key(vid uint16, n uint64) fdb.Key {
	return fdb.Key{Vid: vid, Mac: addr.FromInt(n)}
}

// mine: what the full state's port at a place tells; its priority is 8.
func mine(at int) vector.Vector {
	return vector.Vector{Root: top, Cost: heard + cost, Bridge: self, Port: uint16(0x8001 + at)}
}

// full state in which nothing is wrong, of which all numbers have bytes of their own; each call makes a new one.
func full() record.State {
	s := record.State{Config: record.Config{ID: self, MaxAge: 20, Hello: 10, Delay: 30, Room: 64, Live: 0x0203}, Ports: make([]record.Port, places), Beat: 9}
	for i := range s.Ports {
		s.Ports[i] = record.Port{Port: classify.Port{Pvid: uint16(0x0102 + i), Accept: i % 3}, Cost: cost, Priority: 8, Admin: true, Up: true}
	}
	s.Ports[root].Filter = true
	s.Ports[root].Role, s.Ports[root].State, s.Ports[root].Info = record.Root, record.Forwarding, record.Heard
	s.Ports[root].Vector = vector.Vector{Root: top, Cost: heard, Bridge: near, Port: 0x3132}
	s.Ports[root].Age, s.Ports[root].Life, s.Ports[root].Change = 19, 30, 20
	for _, at := range []int{waiting, agreed, learning} {
		s.Ports[at].Role, s.Ports[at].Info, s.Ports[at].Vector = record.Designated, record.Mine, mine(at)
	}
	s.Ports[waiting].Plain, s.Ports[waiting].Wait, s.Ports[waiting].Change = true, 29, 3
	s.Ports[agreed].Agreed, s.Ports[agreed].State, s.Ports[agreed].Filter, s.Ports[agreed].Edge = true, record.Forwarding, true, true
	s.Ports[learning].State, s.Ports[learning].Wait = record.Learning, 17
	for _, at := range []int{alternate, backup} {
		s.Ports[at].Info, s.Ports[at].Age, s.Ports[at].Life = record.Heard, 7, 11
	}
	s.Ports[alternate].Role, s.Ports[alternate].Vector = record.Alternate, vector.Vector{Root: top, Cost: heard + 1, Bridge: farOff, Port: 0xFFFE}
	s.Ports[backup].Role, s.Ports[backup].Vector = record.Backup, mine(waiting)
	s.Ports[down].Up, s.Ports[down].Edge, s.Ports[down].Priority = false, true, 15
	s.Ports[shut].Admin, s.Ports[shut].Cost = false, api.MaxCost
	s.Vlans = []vlan.Vlan{{Vid: 1, Members: 0x8FFF, Untagged: 0x0F0E}, {Vid: 0x0305, Members: ports.Of(1, 16)}, {Vid: 4094}}
	s.Static = []static.Entry{{Key: key(1, 0x616263646566), Ports: 0x8123}, {Key: key(0x0404, 0xFFFFFFFFFFFF)}}
	s.Fdb = []fdb.Entry{{Key: key(1, 0x707172737475), Port: 8, Age: 0x0201}, {Key: key(0x0305, 2), Port: 1}, {Key: key(4094, 0xFE0000000000), Port: 3, Age: 0x0102}}
	s.Counts = count.Counts{0x01020304, 1, 2, 3, 4, 5, 6, 0x07000000, 8, 0x00090000, 10, 11, 12, math.MaxUint32}
	return s
}

// spelt: the sections of the full state, byte by byte.
func spelt() []string {
	return []string{
		"\x11\x22\x33\x44\x55\x66\x77\x88" + "\x14\x0a\x1e\x40" + "\x02\x03",
		"\x01\x02\x00\x0d\x01\x02\x03\x04\x08" +
			"\x01\x03\x01\x0c\x01\x02\x03\x04\x08" +
			"\x01\x04\x02\x0f\x01\x02\x03\x04\x08" +
			"\x01\x05\x00\x0c\x01\x02\x03\x04\x08" +
			"\x01\x06\x01\x0c\x01\x02\x03\x04\x08" +
			"\x01\x07\x02\x0c\x01\x02\x03\x04\x08" +
			"\x01\x08\x00\x06\x01\x02\x03\x04\x0f" +
			"\x01\x09\x01\x08\x0b\xeb\xc2\x00\x08",
		"\x00\x01\x8f\xff\x0f\x0e" + "\x03\x05\x80\x01\x00\x00" + "\x0f\xfe\x00\x00\x00\x00",
		"\x00\x01abcdef\x81\x23" + "\x04\x04\xff\xff\xff\xff\xff\xff\x00\x00",
		"\x00\x01pqrstu\x08\x02\x01" + "\x03\x05\x00\x00\x00\x00\x00\x02\x01\x00\x00" + "\x0f\xfe\xfe\x00\x00\x00\x00\x00\x03\x01\x02",
		"\x09" +
			"\x00\x03\x02\x02" + "\x01\x02\x03\x04\x05\x06\x07\x08\x11\x12\x13\x14!\"#$%&'(12" + "\x13\x1e\x00\x14" +
			"\x01\x04\x00\x01" + "\x01\x02\x03\x04\x05\x06\x07\x08\x12\x14\x16\x18\x11\x22\x33\x44\x55\x66\x77\x88\x80\x02" + "\x00\x00\x1d\x03" +
			"\x02\x04\x02\x01" + "\x01\x02\x03\x04\x05\x06\x07\x08\x12\x14\x16\x18\x11\x22\x33\x44\x55\x66\x77\x88\x80\x03" + "\x00\x00\x00\x00" +
			"\x00\x04\x01\x01" + "\x01\x02\x03\x04\x05\x06\x07\x08\x12\x14\x16\x18\x11\x22\x33\x44\x55\x66\x77\x88\x80\x04" + "\x00\x00\x11\x00" +
			"\x00\x01\x00\x02" + "\x01\x02\x03\x04\x05\x06\x07\x08\x11\x12\x13\x15QRSTUVWX\xff\xfe" + "\x07\x0b\x00\x00" +
			"\x00\x02\x00\x02" + "\x01\x02\x03\x04\x05\x06\x07\x08\x12\x14\x16\x18\x11\x22\x33\x44\x55\x66\x77\x88\x80\x02" + "\x07\x0b\x00\x00" +
			strings.Repeat("\x00", 60),
		"\x01\x02\x03\x04" + "\x00\x00\x00\x01" + "\x00\x00\x00\x02" + "\x00\x00\x00\x03" + "\x00\x00\x00\x04" + "\x00\x00\x00\x05" + "\x00\x00\x00\x06" +
			"\x07\x00\x00\x00" + "\x00\x00\x00\x08" + "\x00\x09\x00\x00" + "\x00\x00\x00\x0a" + "\x00\x00\x00\x0b" + "\x00\x00\x00\x0c" + "\xff\xff\xff\xff",
	}
}

// bare state: no ports, no VLANs, no entries.
func bare() record.State {
	return record.State{Config: record.Config{ID: 5, MaxAge: 6, Hello: 1, Delay: 2, Room: 3, Live: 4}}
}

// left of a state in a version, field by field.
func left(s record.State, version int) record.State {
	if version == 3 {
		return s
	}
	c := record.State{Config: s.Config, Vlans: s.Vlans}
	for _, p := range s.Ports {
		c.Ports = append(c.Ports, record.Port{Port: p.Port, Cost: p.Cost, Priority: p.Priority, Edge: p.Edge, Admin: p.Admin, Up: p.Up})
	}
	if version == 2 {
		c.Static, c.Fdb = s.Static, s.Fdb
	}
	return c
}

// refused bytes: beside the error all is zero.
func refused(t *testing.T, what, b string, want api.Errno) {
	t.Helper()
	s, v, err := image.Decode(b)
	if err != want || v != 0 || !record.Same(s, record.State{}) {
		t.Errorf("%s: Decode tells version %d, %d, %+v, want the error %d alone", what, v, err, s, want)
	}
}

// unwritten: beside the error there is no image.
func unwritten(t *testing.T, what string, s record.State, version uint8, want api.Errno) {
	t.Helper()
	if b, err := image.Encode(s, version); err != want || b != "" {
		t.Errorf("%s: Encode in version %d tells %d bytes, %d, want the error %d alone", what, version, len(b), err, want)
	}
}

// bothWays: a state is written as that image, which is read as what the version leaves of it, and written again.
func bothWays(t *testing.T, what string, s record.State, version int, want string) {
	t.Helper()
	b, err := image.Encode(s, uint8(version))
	if b != want || err != api.OK || image.Size(s, uint8(version)) != len(want) {
		t.Fatalf("%s: Encode in version %d: %x, %d, want %x, of %d bytes; Size tells %d", what, version, b, err, want, len(want), image.Size(s, uint8(version)))
	}
	lifted := image.Lift(s, uint8(version))
	if !record.Same(lifted, left(s, version)) {
		t.Fatalf("%s: Lift to version %d: %+v, want %+v", what, version, lifted, left(s, version))
	}
	x, v, err := image.Decode(want)
	if err != api.OK || int(v) != version || !record.Same(x, lifted) {
		t.Fatalf("%s: Decode: %+v, %d, %d, want %+v, %d", what, x, v, err, lifted, version)
	}
	if again, err := image.Encode(x, v); again != want || err != api.OK {
		t.Fatalf("%s: Encode of what Decode tells: %x, %d, want %x", what, again, err, want)
	}
}

// P23.1, P23.2, P23.3: each byte of each section, in each version.
func TestSpelt(t *testing.T) {
	for version := 1; version <= 3; version++ {
		bothWays(t, "full", full(), version, imageOf(version, spelt()[:has[version]]))
	}
}

// P23.1, the example: states of which there is nothing but a Config.
func TestBare(t *testing.T) {
	data := []string{"\x00\x00\x00\x00\x00\x00\x00\x05" + "\x06\x01\x02\x03" + "\x00\x04", "", "", "", "", "\x00", strings.Repeat("\x00", 56)}
	for version, size := range map[int]int{1: 13 + 15 + 14, 2: 13 + 25 + 14, 3: 13 + 35 + 14 + 1 + 56} {
		want := imageOf(version, data[:has[version]])
		if len(want) != size {
			t.Errorf("version %d: %d bytes, want %d", version, len(want), size)
		}
		bothWays(t, "bare", bare(), version, want)
	}
}

// P23.1: what each version leaves of states that may be, and of others; all that there are of versions.
func TestLift(t *testing.T) {
	odd := full()
	odd.MaxAge, odd.Beat, odd.Ports[down].Role, odd.Ports[root].Priority, odd.Fdb[0].Port = -1, 99, -5, 77, 1000
	odd.Vlans = append(odd.Vlans, odd.Vlans...)
	for _, s := range []record.State{full(), bare(), full().Cold(), odd, {}, {Beat: 1, Fdb: full().Fdb}} {
		for version := range 256 {
			want := record.State{}
			if version >= 1 && version <= 3 {
				want = left(s, version)
			}
			if got := image.Lift(s, uint8(version)); !record.Same(got, want) {
				t.Errorf("Lift to version %d: %+v, want %+v", version, got, want)
			}
		}
	}
}

// P23.1: what is left shares no memory with what it is left of.
func TestLiftIsNew(t *testing.T) {
	for version := uint8(1); version <= 3; version++ {
		s := full()
		x := image.Lift(s, version)
		for _, l := range []record.State{x, s} {
			for i := range l.Ports {
				l.Ports[i].Cost++
			}
			for i := range l.Vlans {
				l.Vlans[i].Vid++
			}
			for i := range l.Static {
				l.Static[i].Vid++
			}
			for i := range l.Fdb {
				l.Fdb[i].Vid++
			}
		}
		// each was changed once: where they shared a list, it was changed twice
		if !record.Same(x, image.Lift(s, version)) || s.Ports[0].Cost != cost+1 || x.Ports[0].Cost != cost+1 || s.Fdb[0].Vid != 2 || s.Static[0].Vid != 2 || s.Vlans[0].Vid != 2 {
			t.Errorf("version %d: %+v shares memory with %+v", version, x, s)
		}
	}
}

// P23.1: sizes go with how many of each there are, also beyond what may be.
func TestSize(t *testing.T) {
	for _, n := range [][4]int{{0, 0, 0, 0}, {1, 0, 0, 0}, {0, 1, 0, 0}, {0, 0, 1, 0}, {0, 0, 0, 1}, {2, 3, 4, 5}, {16, 16, 16, 64}, {17, 19, 23, 65}, {300, 1000, 70000, 5000}} {
		s := record.State{Ports: make([]record.Port, n[0]), Vlans: make([]vlan.Vlan, n[1]), Static: make([]static.Entry, n[2]), Fdb: make([]fdb.Entry, n[3])}
		for version := range 256 {
			want := 0
			switch version {
			case 1:
				want = 13 + 3*5 + 14 + 9*n[0] + 6*n[1]
			case 2:
				want = 13 + 5*5 + 14 + 9*n[0] + 6*n[1] + 10*n[2] + 11*n[3]
			case 3:
				want = 13 + 7*5 + 14 + 9*n[0] + 6*n[1] + 10*n[2] + 11*n[3] + 1 + 30*n[0] + 56
			}
			if got := image.Size(s, uint8(version)); got != want {
				t.Errorf("Size of %v in version %d: %d, want %d", n, version, got, want)
			}
		}
	}
}

// P23.1: which versions there are; what is wrong in a state is told ahead of it.
func TestVersions(t *testing.T) {
	wrong := full()
	wrong.Fdb[2].Age = 1000
	for version := range 256 {
		unwritten(t, "wrong", wrong, uint8(version), api.ErrRange)
		if version < 1 || version > 3 {
			unwritten(t, "full", full(), uint8(version), api.ErrKind)
			unwritten(t, "bare", bare(), uint8(version), api.ErrKind)
		}
	}
}

// P23.1: each error of a state is told in each version, also of what the version doesn't keep.
func TestEncodeFaults(t *testing.T) {
	for _, c := range []struct {
		what string
		err  api.Errno
		make func(s *record.State)
	}{
		{"MaxAge", api.ErrRange, func(s *record.State) { s.MaxAge = 262 }},
		{"Live", api.ErrRange, func(s *record.State) { s.Live = 65536 + 9 }},
		{"Beat", api.ErrRange, func(s *record.State) { s.Beat = 11 }},
		{"ports", api.ErrPort, func(s *record.State) { s.Ports = append(s.Ports, make([]record.Port, 9)...) }},
		{"Pvid", api.ErrVlan, func(s *record.State) { s.Ports[shut].Pvid = 0 }},
		{"Accept", api.ErrVlan, func(s *record.State) { s.Ports[shut].Accept = 257 }},
		{"Cost", api.ErrRange, func(s *record.State) { s.Ports[shut].Cost = 0 }},
		{"Priority", api.ErrRange, func(s *record.State) { s.Ports[shut].Priority = 256 }},
		{"Role", api.ErrKind, func(s *record.State) { s.Ports[shut].Role = 256 }},
		{"Plain", api.ErrMode, func(s *record.State) { s.Ports[shut].Plain = true }},
		{"Age", api.ErrNum, func(s *record.State) { s.Ports[root].Age = 256 }},
		{"another root port", api.ErrWord, func(s *record.State) { s.Ports[alternate].Vector.Cost = 0 }},
		{"VLANs", api.ErrFull, func(s *record.State) { s.Vlans = make([]vlan.Vlan, 17) }},
		{"order of VLANs", api.ErrOrder, func(s *record.State) { s.Vlans[1].Vid = 1 }},
		{"Members", api.ErrPort, func(s *record.State) { s.Vlans[1].Members = 1 << 16 }},
		{"order of static entries", api.ErrOrder, func(s *record.State) { s.Static[0].Vid = 5000 }},
		{"static ports", api.ErrPort, func(s *record.State) { s.Static[1].Ports = 1 << 20 }},
		{"learnt", api.ErrNone, func(s *record.State) { s.Fdb[1].Vid = 2 }},
		{"learnt port", api.ErrPort, func(s *record.State) { s.Fdb[0].Port = 256 + 1 }},
		{"order of learnt ones", api.ErrOrder, func(s *record.State) { s.Fdb[0].Vid = 4094 }},
	} {
		for version := range uint8(6) {
			s := full()
			c.make(&s)
			unwritten(t, c.what, s, version, c.err)
		}
	}
}

// P23.1, P23.3: numbers at their bounds, and as many of each as may be.
func TestBounds(t *testing.T) {
	most := record.State{Config: record.Config{ID: math.MaxUint64, MaxAge: 40, Hello: 10, Delay: 30, Room: 64, Live: 1000}, Beat: 10}
	for i := range 16 {
		p := record.Port{Port: classify.Port{Pvid: 4094, Accept: 2, Filter: true}, Cost: api.MaxCost, Priority: 15, Edge: true, Admin: true, Up: true}
		p.Plain, p.Role, p.State, p.Info = true, record.Alternate, record.Discarding, record.Heard
		p.Vector = vector.Vector{Root: math.MaxUint64 - 1, Cost: math.MaxUint32 - uint32(16-i), Bridge: math.MaxUint64 - 1, Port: math.MaxUint16}
		p.Age, p.Life, p.Change = 39, 30, 20
		most.Ports = append(most.Ports, p)
		most.Vlans = append(most.Vlans, vlan.Vlan{Vid: uint16(4079 + i), Members: 0xFFFF, Untagged: 0xFFFF})
		most.Static = append(most.Static, static.Entry{Key: key(4094, 1<<48-16+uint64(i)), Ports: 0xFFFF})
	}
	most.Ports[0].Role, most.Ports[0].State = record.Root, record.Forwarding
	for i := range 64 {
		most.Fdb = append(most.Fdb, fdb.Entry{Key: key(4094, 0xFEFFFFFFFFC0+uint64(i)), Port: 16, Age: 999})
	}
	for i := range most.Counts {
		most.Counts[i] = math.MaxUint32
	}
	least := bare()
	least.ID, least.Delay, least.Room, least.Live = 0, 1, 1, 1
	least.Ports = []record.Port{{Port: classify.Port{Pvid: 1}, Cost: 1}}
	least.Vlans, least.Static = []vlan.Vlan{{Vid: 1}}, []static.Entry{{Key: key(1, 0)}}
	least.Fdb = []fdb.Entry{{Key: key(1, 0), Port: 1}}
	for version := 1; version <= 3; version++ {
		bothWays(t, "most", most, version, imageOf(version, words(most)[:has[version]]))
		bothWays(t, "least", least, version, imageOf(version, words(least)[:has[version]]))
	}
}

// P23.2: what layer 21 refuses.
func TestNoImage(t *testing.T) {
	good := imageOf(3, spelt())
	for _, c := range []struct {
		what, b string
		want    api.Errno
	}{
		{"nothing", "", api.ErrShort},
		{"twelve bytes", good[:12], api.ErrShort},
		{"another word in front", "GRDS" + good[4:], api.ErrMagic},
		{"version 0", sealed(0, good[9:len(good)-4]), api.ErrKind},
		{"version 4", sealed(4, good[9:len(good)-4]), api.ErrKind},
		{"cut", good[:len(good)-1], api.ErrShort},
		{"lengthened", good + "\x00", api.ErrLong},
		{"another sum", good[:len(good)-1] + string([]byte{good[len(good)-1] ^ 1}), api.ErrSum},
		{"another byte", good[:20] + "x" + good[21:], api.ErrSum},
		{"a section that isn't whole", sealed(3, good[9:len(good)-5]), api.ErrForm},
		{"sections that don't rise", sealed(1, section(1, spelt()[0])+section(3, "")+section(2, "")), api.ErrOrder},
		{"a section twice", sealed(1, section(1, spelt()[0])+section(2, "")+section(2, "")+section(3, "")), api.ErrOrder},
	} {
		refused(t, c.what, c.b, c.want)
	}
}

// P23.2: any choice of the kinds 0 to 8: those of the version alone are an image of it.
func TestKinds(t *testing.T) {
	data := append(append([]string{"x"}, spelt()...), "")
	for version := 1; version <= 3; version++ {
		for chosen := range 1 << len(data) {
			all := ""
			for kind, s := range data {
				if chosen&(1<<kind) != 0 {
					all += section(byte(kind), s)
				}
			}
			if chosen == 1<<(has[version]+1)-2 {
				if s, v, err := image.Decode(sealed(byte(version), all)); err != api.OK || int(v) != version || !record.Same(s, left(full(), version)) {
					t.Errorf("version %d: %d, %d", version, v, err)
				}
				continue
			}
			refused(t, "other kinds", sealed(byte(version), all), api.ErrKind)
		}
		for kind := has[version] + 1; kind < 256; kind++ {
			all := ""
			for i, s := range spelt()[:has[version]] {
				all += section(byte(i+1), s)
			}
			refused(t, "one more kind", sealed(byte(version), all+section(byte(kind), "")), api.ErrKind)
			all = all[:len(all)-5-len(spelt()[has[version]-1])]
			refused(t, "another last kind", sealed(byte(version), all+section(byte(kind), spelt()[has[version]-1])), api.ErrKind)
		}
	}
}

// P23.2: each section at each length around its own: whole things alone.
func TestLengths(t *testing.T) {
	sizes := [...]int{14, 9, 6, 10, 11, 30, 56} // of a thing of each section
	for version := 1; version <= 3; version++ {
		for i := range has[version] {
			was := spelt()[i]
			for n := range len(was) + 2*sizes[i] + 1 {
				data := spelt()[:has[version]]
				data[i] = (was + was + was)[:n]
				whole := n%sizes[i] == 0
				switch {
				case n == len(was):
					continue
				case i == 0, i > 4, i == 1 && version == 3: // as many as it is, or as the ports are
					whole = false
				}
				_, _, err := image.Decode(imageOf(version, data))
				if whole == (err == api.ErrForm) {
					t.Errorf("version %d, section %d of %d bytes: Decode tells %d", version, i+1, n, err)
				}
				if !whole {
					refused(t, "things that aren't whole", imageOf(version, data), api.ErrForm)
				}
			}
		}
	}
}

// P23.2: as many ports in section 6 as in section 2, whatever these are.
func TestPortsOfBoth(t *testing.T) {
	for n := range 20 {
		for m := range 20 {
			data := spelt()
			data[1], data[4] = strings.Repeat(data[1][:9], n), ""
			data[5] = "\x00" + strings.Repeat("\x00", 30*m)
			want := api.OK
			switch {
			case m != n:
				want = api.ErrForm
			case n > 16:
				want = api.ErrPort
			}
			if _, _, err := image.Decode(imageOf(3, data)); err != want {
				t.Errorf("%d ports in section 2, %d in section 6: %d, want %d", n, m, err, want)
			}
		}
	}
}

// turned section: an image of a version in which one byte of a section is another one.
func turned(version, kind, at int, c byte) string {
	data := spelt()[:has[version]]
	data[kind-1] = data[kind-1][:at] + string([]byte{c}) + data[kind-1][at+1:]
	return imageOf(version, data)
}

// P23.2: flags of each port's settings: the four of them, and no other bits.
func TestFlagsOfSettings(t *testing.T) {
	for version := 1; version <= 3; version++ {
		for port := range places {
			for n := range 256 {
				b := turned(version, 2, 9*port+3, byte(n))
				if n >= 16 {
					refused(t, "other flags", b, api.ErrForm)
					continue
				}
				on := n&4 != 0 && n&8 != 0
				if version == 3 && on != (port < down) {
					refused(t, "flags that don't go with a role", b, map[bool]api.Errno{false: api.ErrMode, true: api.ErrWord}[on])
					continue
				}
				s, _, err := image.Decode(b)
				want := left(full(), version)
				want.Ports[port].Filter, want.Ports[port].Edge, want.Ports[port].Admin, want.Ports[port].Up = n&1 != 0, n&2 != 0, n&4 != 0, n&8 != 0
				if err != api.OK || !record.Same(s, want) {
					t.Errorf("version %d, port %d, flags %x: %+v, %d, want %+v", version, port+1, n, s.Ports, err, want.Ports)
				}
			}
		}
	}
}

// P23.2: flags of how each port is: the two of them, and no other bits.
func TestFlagsOfPorts(t *testing.T) {
	for port := range places {
		for n := range 256 {
			b := turned(3, 6, 1+30*port, byte(n))
			if n >= 4 {
				refused(t, "other flags", b, api.ErrForm)
				continue
			}
			s, _, err := image.Decode(b)
			wrong := port >= down && n != 0 || n >= 2 && port != agreed
			if wrong {
				refused(t, "flags that don't go with a role", b, api.ErrMode)
				continue
			}
			want := full()
			want.Ports[port].Plain, want.Ports[port].Agreed = n&1 != 0, n&2 != 0
			if err != api.OK || !record.Same(s, want) {
				t.Errorf("port %d, flags %x: %+v, %d, want %+v", port+1, n, s.Ports, err, want.Ports)
			}
		}
	}
}

// P23.2: what layer 22 finds wrong in the state that is read.
func TestDecodeFaults(t *testing.T) {
	for _, c := range []struct {
		what        string
		first, kind int // the first version that has the section
		at          int
		c           byte
		want        api.Errno
	}{
		{"MaxAge below", 1, 1, 8, 5, api.ErrRange},
		{"MaxAge above", 1, 1, 8, 41, api.ErrRange},
		{"Hello", 1, 1, 9, 0, api.ErrRange},
		{"Delay", 1, 1, 10, 31, api.ErrRange},
		{"Room", 1, 1, 11, 255, api.ErrRange},
		{"Live", 1, 1, 12, 4, api.ErrRange},
		{"Pvid", 1, 2, 0, 0x10, api.ErrVlan},
		{"Accept", 1, 2, 2, 3, api.ErrVlan},
		{"Cost", 1, 2, 4, 0xFF, api.ErrRange},
		{"Priority", 1, 2, 8, 16, api.ErrRange},
		{"VLANs", 1, 3, 12, 0, api.ErrOrder},
		{"Vid", 1, 3, 12, 0xFF, api.ErrVlan},
		{"Untagged", 1, 3, 4, 0x10, api.ErrPort},
		{"order of static entries", 2, 4, 0, 0xFF, api.ErrOrder},
		{"static Vid", 2, 4, 10, 0xFF, api.ErrVlan},
		{"learnt Vid", 2, 5, 11, 2, api.ErrNone},
		{"learnt port", 2, 5, 8, 9, api.ErrPort},
		{"learnt group", 2, 5, 2, 'q', api.ErrPort},
		{"learnt age", 2, 5, 9, 3, api.ErrRange},
		{"Beat", 3, 6, 0, 11, api.ErrRange},
		{"Role", 3, 6, 2, 5, api.ErrKind},
		{"State", 3, 6, 3, 3, api.ErrKind},
		{"Info", 3, 6, 4, 3, api.ErrKind},
		{"State of a root port", 3, 6, 3, 1, api.ErrMode},
		{"Age", 3, 6, 27, 20, api.ErrNum},
		{"Life", 3, 6, 28, 31, api.ErrNum},
		{"Wait", 3, 6, 29, 1, api.ErrNum},
		{"Change", 3, 6, 30, 21, api.ErrNum},
		{"Root", 3, 6, 5, 2, api.ErrWord},
		{"vector of a port that is Designated", 3, 6, 31 + 25, 9, api.ErrWord},
	} {
		for version := c.first; version <= 3; version++ {
			refused(t, c.what, turned(version, c.kind, c.at, c.c), c.want)
		}
	}
}

// P23.2: as many of each as may be, and one more.
func TestLimits(t *testing.T) {
	for what, c := range map[string]struct {
		kind, most int
		want       api.Errno
		of         func(i int) string
	}{
		"ports":  {2, 16, api.ErrPort, func(int) string { return spelt()[1][63:72] }},
		"VLANs":  {3, 16, api.ErrFull, func(i int) string { return "\x01" + string([]byte{byte(i)}) + "\x00\x00\x00\x00" }},
		"static": {4, 16, api.ErrFull, func(i int) string { return "\x01\x00\x00\x00\x00\x00\x00" + string([]byte{byte(i)}) + "\x00\x00" }},
		"learnt": {5, 64, api.ErrFull, func(i int) string { return "\x00\x01\x00\x00\x00\x00\x00" + string([]byte{byte(i)}) + "\x01\x00\x00" }},
	} {
		for n := c.most - 2; n < c.most+40; n++ {
			data := spelt()[:5]
			if c.kind != 5 {
				data[4] = ""
			}
			data[c.kind-1] = ""
			for i := range n {
				data[c.kind-1] += c.of(i)
			}
			want := api.OK
			if n > c.most {
				want = c.want
			}
			if _, _, err := image.Decode(imageOf(2, data)); err != want {
				t.Errorf("%d of %s: Decode tells %d, want %d", n, what, err, want)
			}
		}
	}
}

// P23.2: of several faults that which is named first.
func TestOrder(t *testing.T) {
	data := spelt()
	data[0] = strings.Replace(data[0], "\x14\x0a", "\x05\x0a", 1) // MaxAge
	refused(t, "Check", imageOf(3, data), api.ErrRange)
	for i := range data {
		form := slices.Clone(data)
		form[i] += "\x00"
		refused(t, "a section's bytes ahead of Check", imageOf(3, form), api.ErrForm)
		refused(t, "kinds ahead of a section's bytes", imageOf(3, append(form, "")), api.ErrKind)
		refused(t, "kinds ahead of a section's bytes, one less", imageOf(3, form[:6]), api.ErrKind)
		b := imageOf(3, append(form, ""))
		refused(t, "the sum ahead of kinds", b[:len(b)-1]+string([]byte{b[len(b)-1] ^ 0x80}), api.ErrSum)
	}
	flagged := slices.Clone(data)
	flagged[5] = flagged[5][:1] + "\x04" + flagged[5][2:]
	refused(t, "flags ahead of Check", imageOf(3, flagged), api.ErrForm)
	flagged = slices.Clone(data)
	flagged[1] = flagged[1][:3] + "\x1d" + flagged[1][4:]
	refused(t, "flags of settings ahead of Check", imageOf(1, flagged[:3]), api.ErrForm)
}

// P6, P23.3: no beginning, nothing with bytes behind it, and nothing turned within 32 bits is an image.
func TestSpoilt(t *testing.T) {
	for version := 1; version <= 3; version++ {
		b := imageOf(version, spelt()[:has[version]])
		for n := range len(b) {
			refused(t, "a beginning", b[:n], api.ErrShort)
		}
		for n := 1; n < 50; n++ {
			refused(t, "noughts behind", b+strings.Repeat("\x00", n), api.ErrLong)
		}
		refused(t, "itself behind", b+b, api.ErrLong)
		for at := range 8 * len(b) {
			for _, bits := range []uint64{1, 3, 0x81, 0x80000001, 0xFFFFFFFF, 0xEDB88321} {
				x := []byte(b)
				for i := range 32 {
					if place := at + i; bits>>i&1 == 1 && place < 8*len(x) {
						x[place/8] ^= 1 << (place % 8)
					}
				}
				if s, v, err := image.Decode(string(x)); err == api.OK || v != 0 || !record.Same(s, record.State{}) {
					t.Fatalf("version %d, turned by %x from the bit %d on: %d, %d", version, bits, at, v, err)
				}
			}
		}
	}
}

// roomy: a state whose lists have room behind them, with something there.
func roomy(s record.State) record.State {
	s.Ports = append(s.Ports, record.Port{Cost: 77})[:len(s.Ports)]
	s.Vlans = append(s.Vlans, vlan.Vlan{Vid: 77})[:len(s.Vlans)]
	s.Static = append(s.Static, static.Entry{Ports: 77})[:len(s.Static)]
	s.Fdb = append(s.Fdb, fdb.Entry{Port: 77})[:len(s.Fdb)]
	return s
}

// whole state: its lists with the room behind them.
func whole(s record.State) record.State {
	s.Ports, s.Vlans, s.Static, s.Fdb = s.Ports[:cap(s.Ports)], s.Vlans[:cap(s.Vlans)], s.Static[:cap(s.Static)], s.Fdb[:cap(s.Fdb)]
	return s
}

// P23.1, P23.2: what is handed in stays as it is, and what is answered is no other's.
func TestKeepsNothing(t *testing.T) {
	for version := range uint8(5) {
		s, was := roomy(full()), roomy(full())
		image.Size(s, version)
		first, _ := image.Encode(s, version)
		x := image.Lift(s, version)
		x.Ports, x.Vlans = append(x.Ports, record.Port{}), append(x.Vlans, vlan.Vlan{})
		x.Static, x.Fdb = append(x.Static, static.Entry{}), append(x.Fdb, fdb.Entry{})
		if !reflect.DeepEqual(whole(s), whole(was)) {
			t.Errorf("version %d: a state was changed from %+v\nto %+v", version, was, s)
		}
		a, _, err := image.Decode(first)
		if err != api.OK {
			continue
		}
		clear(a.Ports)
		clear(a.Vlans)
		clear(a.Static)
		clear(a.Fdb)
		if b, v, err := image.Decode(first); err != api.OK || v != version || !record.Same(b, image.Lift(s, version)) {
			t.Errorf("version %d: decoded anew: %+v, %d, %d", version, b, v, err)
		}
	}
}
