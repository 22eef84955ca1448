package egress_test

import (
	"math"
	"slices"
	"strings"
	"testing"

	"girder/addr"
	"girder/api"
	"girder/egress"
	"girder/fdb"
	"girder/frame"
	"girder/ports"
	"girder/static"
	"girder/vlan"
)

const all = ports.Set(1<<api.MaxPorts - 1)

// noPorts are numbers that no port has.
func noPorts() []int {
	return []int{0, -1, 17, 18, 32, 33, 64, 65, 1<<32 + 1, math.MinInt, math.MaxInt}
}

// key of a VLAN's number, and an address' number.
func key(vid uint16, n uint64) fdb.Key {
	return fdb.Key{Vid: vid, Mac: addr.FromInt(n)}
}

// tables, of these VLANs alone.
func tables(t *testing.T, l ...vlan.Vlan) egress.Tables {
	t.Helper()
	x := egress.Tables{Vlans: vlan.New(), Static: static.New(), Fdb: fdb.New(64, 9)}
	for _, v := range l {
		if err := x.Vlans.Set(v); err != api.OK {
			t.Fatalf("Set(%+v) = %d", v, err)
		}
	}
	return x
}

// laid down: frames of that key go there.
func laid(t *testing.T, x egress.Tables, k fdb.Key, s ports.Set) {
	t.Helper()
	if err := x.Static.Set(static.Entry{Key: k, Ports: s}); err != api.OK {
		t.Fatalf("Set of %v to %x = %d", k, s, err)
	}
}

// seen: the station of that key is there.
func seen(t *testing.T, x egress.Tables, k fdb.Key, port int) {
	t.Helper()
	if !x.Fdb.Put(fdb.Entry{Key: k, Port: port}) {
		t.Fatalf("no room for %v", k)
	}
}

// goes to those ports.
func goes(t *testing.T, x egress.Tables, from int, k fdb.Key, open, want ports.Set) {
	t.Helper()
	if got := x.Ports(from, k.Vid, k.Mac, open); got != want {
		t.Errorf("Ports(%d, %d, %v, %x) = %x, want %x", from, k.Vid, k.Mac, open, got, want)
	}
}

// P12.1, and the example: to all members but that from which it came, as far as they are open.
func TestPortsOfUnknown(t *testing.T) {
	x := tables(t, vlan.Vlan{Vid: 5, Members: 15, Untagged: 2}, vlan.Vlan{Vid: 6, Members: 0xFF00}, vlan.Vlan{Vid: 7})
	k := key(5, 8)
	goes(t, x, 1, k, all, 14)
	goes(t, x, 2, k, all, 13)
	goes(t, x, 4, k, all, 7)
	goes(t, x, 5, k, all, 15) // no member itself
	goes(t, x, 1, k, 7, 6)
	goes(t, x, 1, k, 1, 0)
	goes(t, x, 1, k, 0, 0)
	goes(t, x, 1, k, 0xFFF0, 0)
	goes(t, x, 9, key(6, 8), all, 0xFE00)
	goes(t, x, 16, key(6, 8), all, 0x7F00)
	goes(t, x, 1, key(7, 8), all, 0)
}

// P12.1: each from with each pair of members, open or not.
func TestPortsOfEveryPort(t *testing.T) {
	for p := 1; p <= api.MaxPorts; p++ {
		for q := 1; q <= api.MaxPorts; q++ {
			x := tables(t, vlan.Vlan{Vid: 5, Members: ports.Of(p, q)})
			for from := 1; from <= api.MaxPorts; from++ {
				want := ports.Of(p, q).Without(from)
				goes(t, x, from, key(5, 8), all, want)
				goes(t, x, from, key(5, 8), all.Without(q), want.Without(q))
				goes(t, x, from, key(5, 8), ports.Of(p, from), ports.Of(p).Without(from))
			}
		}
	}
}

// P12.1: a from that is no port takes none away.
func TestPortsFromNoPort(t *testing.T) {
	x := tables(t, vlan.Vlan{Vid: 5, Members: all})
	seen(t, x, key(5, 9), 1)
	laid(t, x, key(5, 10), 3)
	for _, from := range noPorts() {
		goes(t, x, from, key(5, 8), all, all)
		goes(t, x, from, key(5, 9), all, 1)
		goes(t, x, from, key(5, 10), all, 3)
	}
}

// P12.1: bits of open that are no ports come to nothing.
func TestPortsOfOpenBits(t *testing.T) {
	x := tables(t, vlan.Vlan{Vid: 5, Members: all}, vlan.Vlan{Vid: 6, Members: 3})
	for _, high := range []ports.Set{0x10000, 0x80000000, 0xFFFF0000} {
		goes(t, x, 1, key(5, 8), all|high, 0xFFFE)
		goes(t, x, 1, key(6, 8), all|high, 2)
		goes(t, x, 1, key(5, 8), high, 0)
	}
}

// P12.1: none, where there is no such VLAN, whatever else is known.
func TestPortsOfEveryVid(t *testing.T) {
	x := tables(t, vlan.Vlan{Vid: 1, Members: 7}, vlan.Vlan{Vid: 256, Members: 14}, vlan.Vlan{Vid: 4094, Members: 6})
	want := map[int]ports.Set{1: 6, 256: 14, 4094: 6}
	for n := range 1 << 16 {
		goes(t, x, 1, key(uint16(n), 8), all, want[n])
	}
	for _, vid := range []uint16{2, 5, 257, 4093} {
		laid(t, x, key(vid, 8), all)
		seen(t, x, key(vid, 9), 2)
		goes(t, x, 1, key(vid, 8), all, 0)
		goes(t, x, 1, key(vid, 9), all, 0)
	}
	seen(t, x, key(0, 9), 2)
	seen(t, x, key(65535, 9), 2)
	goes(t, x, 1, key(0, 9), all, 0)
	goes(t, x, 1, key(65535, 9), all, 0)
}

// P12.1: none for Reserved addresses, and all for those around them.
func TestPortsOfReserved(t *testing.T) {
	x := tables(t, vlan.Vlan{Vid: 5, Members: 7})
	for last := range uint64(256) {
		want := ports.Set(6)
		if last < 0x10 {
			want = 0
		}
		goes(t, x, 1, key(5, 0x0180C2000000+last), all, want)
	}
	for _, n := range []uint64{0x0180C1FFFFFF, 0x0180C2000100, 0x0180C2010000, 0x0080C2000000, 0x0380C2000000, 0xFFFFFFFFFFFF, 0} {
		goes(t, x, 1, key(5, n), all, 6)
	}
}

// P12.1: what was laid down holds, of that VLAN and that address alone.
func TestPortsOfStatic(t *testing.T) {
	x := tables(t, vlan.Vlan{Vid: 5, Members: 15}, vlan.Vlan{Vid: 6, Members: 15})
	laid(t, x, key(5, 8), 10)
	goes(t, x, 1, key(5, 8), all, 10)
	goes(t, x, 2, key(5, 8), all, 8)
	goes(t, x, 4, key(5, 8), all, 2)
	goes(t, x, 1, key(5, 8), 7, 2)
	goes(t, x, 1, key(5, 8), 5, 0)
	goes(t, x, 1, key(6, 8), all, 14)
	goes(t, x, 1, key(5, 9), all, 14)
	goes(t, x, 1, key(5, 8<<8), all, 14)
}

// P12.1: every set of what was laid down counts no further than members, from and open do.
func TestPortsOfEveryStatic(t *testing.T) {
	x := tables(t, vlan.Vlan{Vid: 5, Members: 0x0FF0})
	for s := range ports.Set(1 << api.MaxPorts) {
		laid(t, x, key(5, 8), s)
		for p := 1; p <= api.MaxPorts; p += 5 {
			goes(t, x, p, key(5, 8), 0x3FC, (s & 0x03F0).Without(p))
		}
	}
}

// P12.1: what was laid down may be of a group's address, or of no ports; it goes ahead of what was learnt, also where it leads nowhere.
func TestPortsOfStaticFirst(t *testing.T) {
	x := tables(t, vlan.Vlan{Vid: 5, Members: 15})
	group := key(5, 0x0180C2000010)
	laid(t, x, group, 6)
	goes(t, x, 1, group, all, 6)
	for _, s := range []ports.Set{0, 1, 8, 0xFFF0, 9} {
		laid(t, x, key(5, 8), s)
		seen(t, x, key(5, 8), 3)
		goes(t, x, 1, key(5, 8), all, s&14)
		goes(t, x, 1, key(5, 8), 7, s&6)
	}
	x.Static.Drop(key(5, 8))
	goes(t, x, 1, key(5, 8), all, 4)
	x.Fdb.Flush(3)
	goes(t, x, 1, key(5, 8), all, 14)
}

// P12.1: a station that was seen: its port alone, and none where that one may not be, of that VLAN and that address alone.
func TestPortsOfSeen(t *testing.T) {
	x := tables(t, vlan.Vlan{Vid: 5, Members: 15}, vlan.Vlan{Vid: 6, Members: 15})
	seen(t, x, key(5, 8), 3)
	seen(t, x, key(5, 9), 5)
	goes(t, x, 1, key(5, 8), all, 4)
	goes(t, x, 3, key(5, 8), all, 0) // there it came from
	goes(t, x, 1, key(5, 8), 11, 0)  // closed
	goes(t, x, 1, key(5, 8), 4, 4)
	goes(t, x, 1, key(5, 9), all, 0) // no member
	goes(t, x, 1, key(6, 8), all, 14)
	goes(t, x, 1, key(5, 10), all, 14)
	goes(t, x, 1, key(5, 8<<8), all, 14)
}

// P12.1: each port behind which a station may be seen.
func TestPortsOfEverySeen(t *testing.T) {
	for p := 1; p <= api.MaxPorts; p++ {
		x := tables(t, vlan.Vlan{Vid: 5, Members: all}, vlan.Vlan{Vid: 6, Members: all.Without(p)})
		seen(t, x, key(5, 8), p)
		seen(t, x, key(6, 8), p)
		for from := 1; from <= api.MaxPorts; from++ {
			goes(t, x, from, key(5, 8), all, ports.Of(p).Without(from))
			goes(t, x, from, key(5, 8), all.Without(p), 0)
			goes(t, x, from, key(6, 8), all, 0)
		}
	}
}

// P12.1: tables that are nil have nothing.
func TestPortsOfNil(t *testing.T) {
	goes(t, egress.Tables{}, 1, key(5, 8), all, 0)
	x := tables(t, vlan.Vlan{Vid: 5, Members: 7})
	laid(t, x, key(5, 8), 2)
	seen(t, x, key(5, 8), 3)
	seen(t, x, key(5, 9), 3)
	goes(t, egress.Tables{Static: x.Static, Fdb: x.Fdb}, 1, key(5, 8), all, 0)
	goes(t, egress.Tables{Vlans: x.Vlans}, 1, key(5, 8), all, 6)
	goes(t, egress.Tables{Vlans: x.Vlans, Fdb: x.Fdb}, 1, key(5, 8), all, 4)
	goes(t, egress.Tables{Vlans: x.Vlans, Static: x.Static}, 1, key(5, 8), all, 2)
	goes(t, egress.Tables{Vlans: x.Vlans, Static: x.Static}, 1, key(5, 9), all, 6)
}

// P12.1: asking changes nothing.
func TestPortsKeepsTables(t *testing.T) {
	v := vlan.Vlan{Vid: 5, Members: 7}
	x := tables(t, v)
	laid(t, x, key(5, 8), 2)
	x.Fdb.Put(fdb.Entry{Key: key(5, 9), Port: 3, Age: 4})
	for range 3 {
		goes(t, x, 1, key(5, 8), all, 2)
		goes(t, x, 1, key(5, 9), all, 4)
		goes(t, x, 1, key(5, 10), all, 6)
		goes(t, x, 1, key(6, 10), all, 0)
	}
	if l := x.Vlans.List(); !slices.Equal(l, []vlan.Vlan{v}) {
		t.Errorf("VLANs: %+v", l)
	}
	if l := x.Static.List(); !slices.Equal(l, []static.Entry{{Key: key(5, 8), Ports: 2}}) {
		t.Errorf("static entries: %+v", l)
	}
	if l := x.Fdb.List(); !slices.Equal(l, []fdb.Entry{{Key: key(5, 9), Port: 3, Age: 4}}) {
		t.Errorf("learnt entries: %+v", l)
	}
}

// sent at a port of a VLAN, it looks like that.
func sent(t *testing.T, f frame.Frame, v vlan.Vlan, port int, want frame.Frame) {
	t.Helper()
	if got, ok := egress.Form(f, v, port); got != want || !ok {
		t.Errorf("Form(%+v, %+v, %d) = %+v, %v, want %+v, true", short(f), v, port, short(got), ok, short(want))
	}
}

// unsent at a port of a VLAN, as it would be none.
func unsent(t *testing.T, f frame.Frame, v vlan.Vlan, port int) {
	t.Helper()
	if got, ok := egress.Form(f, v, port); got != (frame.Frame{}) || ok {
		t.Errorf("Form(%+v, %+v, %d) = %+v, %v, want none", short(f), v, port, short(got), ok)
	}
}

// short form of a frame, to be shown.
func short(f frame.Frame) frame.Frame {
	if len(f.Data) > 20 {
		f.Data = f.Data[:20] + ".."
	}
	return f
}

// a frame from one station to another one, without a tag.
func plain(data string) frame.Frame {
	return frame.Frame{Dst: addr.FromInt(0x010203040506), Src: addr.FromInt(0x0A0B0C0D0E0F), Type: 0x800, Data: data}
}

// the same one with a tag.
func tagged(pcp uint8, dei bool, vid uint16, data string) frame.Frame {
	f := plain(data)
	f.Tagged, f.Pcp, f.Dei, f.Vid = true, pcp, dei, vid
	return f
}

// P12.2: without a tag, where the port is in Untagged; else with it, and the VLAN's Vid; every Pcp and Dei.
func TestForm(t *testing.T) {
	v := vlan.Vlan{Vid: 5, Members: 15, Untagged: 2}
	sent(t, plain("abc"), v, 2, plain("abc"))
	sent(t, plain("abc"), v, 1, tagged(0, false, 5, "abc"))
	for pcp := range uint8(8) {
		for _, dei := range []bool{false, true} {
			for _, vid := range []uint16{0, 5, 9, 4094} {
				sent(t, tagged(pcp, dei, vid, "abc"), v, 2, plain("abc"))
				sent(t, tagged(pcp, dei, vid, "abc"), v, 1, tagged(pcp, dei, 5, "abc"))
			}
		}
	}
}

// P12.2: Untagged alone counts, at every port, and at what is none.
func TestFormOfEveryPort(t *testing.T) {
	for p := 1; p <= api.MaxPorts; p++ {
		for _, untagged := range []ports.Set{0, ports.Of(p), all.Without(p), all} {
			for _, members := range []ports.Set{0, untagged, all} {
				v := vlan.Vlan{Vid: 7, Members: members, Untagged: untagged}
				want := tagged(3, true, 7, "d")
				if untagged == all || untagged == ports.Of(p) {
					want = plain("d")
				}
				sent(t, tagged(3, true, 9, "d"), v, p, want)
			}
		}
	}
	for _, p := range noPorts() {
		for _, untagged := range []ports.Set{0, all, math.MaxUint32} {
			sent(t, tagged(3, true, 9, "d"), vlan.Vlan{Vid: 7, Members: all, Untagged: untagged}, p, tagged(3, true, 7, "d"))
		}
	}
}

// P12.2: every VLAN's number; 0 is a tag for the priority alone; above MaxVid there are no bytes of it, but without a tag it counts for nothing.
func TestFormOfEveryVid(t *testing.T) {
	for n := range 1 << 16 {
		v := vlan.Vlan{Vid: uint16(n), Untagged: 2}
		if n <= 4094 {
			sent(t, plain("abc"), v, 1, tagged(0, false, uint16(n), "abc"))
		} else {
			unsent(t, plain("abc"), v, 1)
			unsent(t, tagged(1, true, 5, "abc"), v, 1)
		}
		sent(t, tagged(1, true, uint16(n), "abc"), v, 2, plain("abc"))
	}
}

// P12.2: a frame that is too long for its new tag, or that the want of one makes short enough.
func TestFormOfLength(t *testing.T) {
	v := vlan.Vlan{Vid: 5, Members: 3, Untagged: 2}
	for n := 1490; n <= 1530; n++ {
		data := strings.Repeat("x", n)
		for _, f := range []frame.Frame{plain(data), tagged(0, false, 9, data)} {
			if 14+n <= 1518 {
				sent(t, f, v, 2, plain(data))
			} else {
				unsent(t, f, v, 2)
			}
			if 18+n <= 1518 {
				sent(t, f, v, 1, tagged(0, false, 5, data))
			} else {
				unsent(t, f, v, 1)
			}
		}
	}
	sent(t, plain(""), v, 1, tagged(0, false, 5, ""))
	unsent(t, plain(strings.Repeat("x", 100000)), v, 1)
	unsent(t, plain(strings.Repeat("x", 100000)), v, 2)
}

// P12.2: a type that is a tag's may stand behind a tag alone.
func TestFormOfType(t *testing.T) {
	v := vlan.Vlan{Vid: 5, Members: 3, Untagged: 2}
	for n := range 1 << 16 {
		f, g := plain("abc"), tagged(6, true, 9, "abc")
		f.Type, g.Type = uint16(n), uint16(n)
		if n != 0x8100 {
			sent(t, f, v, 2, f)
			sent(t, g, v, 2, f)
		} else {
			unsent(t, f, v, 2)
			unsent(t, g, v, 2)
		}
		bare, full := f, g
		bare.Tagged, bare.Vid, full.Vid = true, 5, 5
		sent(t, f, v, 1, bare)
		sent(t, g, v, 1, full)
	}
}

// P12.2: frames that may not be themselves: what counts is how they are sent.
func TestFormOfNoFrame(t *testing.T) {
	v := vlan.Vlan{Vid: 5, Members: 3, Untagged: 2}
	for _, pcp := range []uint8{8, 9, 16, 255} {
		unsent(t, tagged(pcp, false, 5, "abc"), v, 1)
		unsent(t, frame.Frame{Pcp: pcp}, v, 1)
		sent(t, tagged(pcp, true, 5, "abc"), v, 2, plain("abc"))
		sent(t, frame.Frame{Pcp: pcp}, v, 2, frame.Frame{})
	}
	sent(t, frame.Frame{Pcp: 7, Dei: true, Vid: 9}, v, 1, frame.Frame{Tagged: true, Pcp: 7, Dei: true, Vid: 5})
	sent(t, frame.Frame{Pcp: 7, Dei: true, Vid: 9}, v, 2, frame.Frame{})
	sent(t, tagged(1, false, 65535, "abc"), v, 1, tagged(1, false, 5, "abc"))
	sent(t, tagged(1, false, 65535, "abc"), v, 2, plain("abc"))
}

// P12.2: all that Form takes has bytes, and those are read as it again.
func TestFormIsFrame(t *testing.T) {
	for _, v := range []vlan.Vlan{{Vid: 0}, {Vid: 5, Untagged: 2}, {Vid: 4094, Untagged: 3}, {Vid: 4095, Untagged: 2}} {
		for _, f := range []frame.Frame{{}, plain("abc"), tagged(7, true, 0, ""), tagged(8, true, 0, ""), {Tagged: true, Type: 0x8100}} {
			for port := range 4 {
				got, ok := egress.Form(f, v, port)
				if !ok {
					unsent(t, f, v, port)
					continue
				}
				s, err := frame.Encode(got)
				back, wrong := frame.Decode(s)
				if err != api.OK || wrong != api.OK || back != got {
					t.Errorf("Form(%+v, %+v, %d) = %+v: as bytes %x, %d, read as %+v, %d", f, v, port, got, s, err, back, wrong)
				}
			}
		}
	}
}
