package image_test

import (
	"encoding/binary"
	"testing"

	"girder/addr"
	"girder/api"
	"girder/classify"
	"girder/fdb"
	"girder/image"
	"girder/ports"
	"girder/record"
	"girder/static"
	"girder/tlv"
	"girder/valid"
	"girder/vector"
	"girder/vlan"
)

// bits of flags, the first one the lowest.
func bits(l ...bool) byte {
	var n byte
	for i, is := range l {
		if is {
			n += 1 << i
		}
	}
	return n
}

// words: the bytes of all seven sections of a state, as the chapter says, number by number.
func words(s record.State) []string {
	to := binary.BigEndian
	l := make([][]byte, 7)
	l[0] = append(to.AppendUint64(nil, uint64(s.ID)), byte(s.MaxAge), byte(s.Hello), byte(s.Delay), byte(s.Room), byte(s.Live>>8), byte(s.Live))
	l[5] = []byte{byte(s.Beat)}
	for _, p := range s.Ports {
		l[1] = append(to.AppendUint16(l[1], p.Pvid), byte(p.Accept), bits(p.Filter, p.Edge, p.Admin, p.Up))
		l[1] = append(to.AppendUint32(l[1], p.Cost), byte(p.Priority))
		l[5] = append(l[5], bits(p.Plain, p.Agreed), byte(p.Role), byte(p.State), byte(p.Info))
		l[5] = to.AppendUint32(to.AppendUint64(l[5], uint64(p.Vector.Root)), p.Vector.Cost)
		l[5] = to.AppendUint16(to.AppendUint64(l[5], uint64(p.Vector.Bridge)), p.Vector.Port)
		l[5] = append(l[5], byte(p.Age), byte(p.Life), byte(p.Wait), byte(p.Change))
	}
	for _, v := range s.Vlans {
		l[2] = to.AppendUint16(to.AppendUint16(to.AppendUint16(l[2], v.Vid), uint16(v.Members)), uint16(v.Untagged))
	}
	for _, e := range s.Static {
		l[3] = to.AppendUint16(append(to.AppendUint16(l[3], e.Vid), e.Mac[:]...), uint16(e.Ports))
	}
	for _, e := range s.Fdb {
		l[4] = append(append(to.AppendUint16(l[4], e.Vid), e.Mac[:]...), byte(e.Port), byte(e.Age>>8), byte(e.Age))
	}
	for _, n := range s.Counts {
		l[6] = to.AppendUint32(l[6], n)
	}
	var data []string
	for _, b := range l {
		data = append(data, string(b))
	}
	return data
}

// each thing of so many bytes; false, where they aren't whole.
func each(data string, size int, one func(i int, b []byte) bool) bool {
	ok := len(data)%size == 0
	for i := range len(data) / size {
		ok = one(i, []byte(data[i*size:(i+1)*size])) && ok
	}
	return ok
}

// yes: the bit of a flag.
func yes(b byte, at int) bool {
	return b>>at&1 == 1
}

// read the sections 1 to 5 as the chapter says, as many as there are.
func readElder(l []string, s *record.State) bool {
	to := binary.BigEndian
	ok := len(l[0]) == 14 && each(l[0], 14, func(_ int, b []byte) bool {
		s.ID, s.Live = addr.ID(to.Uint64(b)), int(to.Uint16(b[12:]))
		s.MaxAge, s.Hello, s.Delay, s.Room = int(b[8]), int(b[9]), int(b[10]), int(b[11])
		return true
	})
	ok = each(l[1], 9, func(_ int, b []byte) bool {
		p := record.Port{Port: classify.Port{Pvid: to.Uint16(b), Accept: int(b[2]), Filter: yes(b[3], 0)}, Edge: yes(b[3], 1), Admin: yes(b[3], 2), Up: yes(b[3], 3)}
		p.Cost, p.Priority = to.Uint32(b[4:]), int(b[8])
		s.Ports = append(s.Ports, p)
		return b[3] < 16
	}) && ok
	ok = each(l[2], 6, func(_ int, b []byte) bool {
		s.Vlans = append(s.Vlans, vlan.Vlan{Vid: to.Uint16(b), Members: ports.Set(to.Uint16(b[2:])), Untagged: ports.Set(to.Uint16(b[4:]))})
		return true
	}) && ok
	if len(l) == 3 {
		return ok
	}
	ok = each(l[3], 10, func(_ int, b []byte) bool {
		s.Static = append(s.Static, static.Entry{Key: fdb.Key{Vid: to.Uint16(b), Mac: addr.MAC(b[2:8])}, Ports: ports.Set(to.Uint16(b[8:]))})
		return true
	}) && ok
	return each(l[4], 11, func(_ int, b []byte) bool {
		s.Fdb = append(s.Fdb, fdb.Entry{Key: fdb.Key{Vid: to.Uint16(b), Mac: addr.MAC(b[2:8])}, Port: int(b[8]), Age: int(to.Uint16(b[9:]))})
		return true
	}) && ok
}

// read the sections 6 and 7 as the chapter says.
func readLast(l []string, s *record.State) bool {
	to := binary.BigEndian
	if len(l[5]) != 1+30*len(s.Ports) || len(l[6]) != 56 {
		return false
	}
	s.Beat = int(l[5][0])
	each(l[6], 4, func(i int, b []byte) bool {
		s.Counts[i] = to.Uint32(b)
		return true
	})
	return each(l[5][1:], 30, func(i int, b []byte) bool {
		p := &s.Ports[i]
		p.Plain, p.Agreed, p.Role, p.State, p.Info = yes(b[0], 0), yes(b[0], 1), int(b[1]), int(b[2]), int(b[3])
		p.Vector = vector.Vector{Root: addr.ID(to.Uint64(b[4:])), Cost: to.Uint32(b[12:]), Bridge: addr.ID(to.Uint64(b[16:])), Port: to.Uint16(b[24:])}
		p.Age, p.Life, p.Wait, p.Change = int(b[26]), int(b[27]), int(b[28]), int(b[29])
		return b[0] < 4
	})
}

// decode as the chapter says, sentence by sentence.
func decode(b string) (record.State, uint8, api.Errno) {
	version, sections, err := tlv.Parse(b)
	if err != api.OK {
		return record.State{}, 0, err
	}
	var l []string
	for i, s := range sections {
		if int(s.Kind) != i+1 {
			return record.State{}, 0, api.ErrKind
		}
		l = append(l, s.Data)
	}
	if len(l) != has[version] {
		return record.State{}, 0, api.ErrKind
	}
	var s record.State
	if !readElder(l, &s) || version == 3 && !readLast(l, &s) {
		return record.State{}, 0, api.ErrForm
	}
	if err := valid.Check(s); err != api.OK {
		return record.State{}, 0, err
	}
	return s, version, api.OK
}

// asSaid: Decode tells what the words say; what it takes is written again as the same bytes.
func asSaid(t *testing.T, b string) api.Errno {
	t.Helper()
	s, v, err := image.Decode(b)
	if want, version, wrong := decode(b); err != wrong || v != version || !record.Same(s, want) {
		t.Fatalf("Decode of %x: %+v, %d, %d, want %+v, %d, %d", b, s, v, err, want, version, wrong)
	}
	if err != api.OK {
		return err
	}
	if again, err := image.Encode(s, v); again != b || err != api.OK || image.Size(s, v) != len(b) {
		t.Fatalf("Encode of what Decode tells of %x: %x, %d; Size tells %d", b, again, err, image.Size(s, v))
	}
	return api.OK
}

// draw of numbers that come one behind the other, none by chance.
type draw uint64

// next number below a bound.
func (d *draw) next(bound int) int {
	*d = *d*6364136223846793005 + 1442695040888963407
	return int(uint64(*d>>33) % uint64(bound))
}

// spoil one byte of some section, or cut it, or lengthen it.
func (d *draw) spoil(data []string) {
	i := d.next(len(data))
	s := data[i]
	at := d.next(len(s) + 1)
	switch {
	case d.next(8) == 0:
		data[i] = s[:at]
	case d.next(8) == 0 || at == len(s):
		data[i] = s[:at] + s[d.next(len(s)+1):]
	case d.next(2) == 0:
		data[i] = s[:at] + string([]byte{s[at] ^ 1<<d.next(8)}) + s[at+1:]
	default:
		data[i] = s[:at] + string([]byte{byte(d.next(40))}) + s[at+1:]
	}
}

// P23.2, P23.3: sections, spoilt in one place or in two, with the sum that goes with them: refused, or the image of a state.
func TestWords(t *testing.T) {
	var d draw
	met := map[api.Errno]int{}
	for _, s := range []record.State{full(), full().Cold(), bare()} {
		for range 30000 {
			version := 1 + d.next(3)
			data := words(s)[:has[version]]
			d.spoil(data)
			met[asSaid(t, imageOf(version, data))]++
			d.spoil(data)
			met[asSaid(t, imageOf(version, data))]++
			if d.next(10) == 0 {
				met[asSaid(t, imageOf(1+d.next(3), data))]++
			}
		}
	}
	for _, err := range []api.Errno{api.OK, api.ErrForm, api.ErrRange, api.ErrKind, api.ErrOrder, api.ErrMode, api.ErrNum, api.ErrWord, api.ErrNone, api.ErrPort, api.ErrVlan} {
		if met[err] < 100 {
			t.Errorf("the error %d was met %d times", err, met[err])
		}
	}
}

// P23.2, P23.3: each byte of each section as each other one.
func TestEachByte(t *testing.T) {
	for version := 1; version <= 3; version++ {
		for i, s := range spelt()[:has[version]] {
			for at := range s {
				for c := range 256 {
					asSaid(t, turned(version, i+1, at, byte(c)))
				}
			}
		}
	}
}
