package bridge_test

import (
	"math"
	"slices"
	"strings"
	"testing"

	"girder/addr"
	"girder/api"
	"girder/bpdu"
	"girder/bridge"
	"girder/classify"
	"girder/count"
	"girder/fdb"
	"girder/frame"
	"girder/ports"
	"girder/record"
	"girder/static"
	"girder/tree"
	"girder/vector"
	"girder/vlan"
)

const (
	self  = addr.ID(0x8000_00A1B2C3D4E5) // the bridge's ID
	near  = 2                            // the numbers of two stations' addresses
	far   = 4
	group = 0x010203040506
)

// key of a VLAN's number, and an address' number.
func key(vid uint16, n uint64) fdb.Key {
	return fdb.Key{Vid: vid, Mac: addr.FromInt(n)}
}

// entry of the VLAN 1.
func entry(n uint64, port, age int) fdb.Entry {
	return fdb.Entry{Key: key(1, n), Port: port, Age: age}
}

// cold bridge of so many ports, all up, and all members of the VLAN 1 without tags.
func cold(n int) record.State {
	s := record.State{Config: record.Config{ID: self, MaxAge: 6, Hello: 2, Delay: 3, Room: 4, Live: 20}}
	for range n {
		s.Ports = append(s.Ports, record.Port{Port: classify.Port{Pvid: 1}, Cost: 10, Admin: true, Up: true})
	}
	s.Vlans = []vlan.Vlan{{Vid: 1, Members: 0xFFFF, Untagged: 0xFFFF}}
	return s
}

// open bridge of so many ports, that all forward, as somebody agreed at each of them; nothing is counted.
func open(n int) record.State {
	s, _ := tree.Start(cold(n))
	for i, p := range s.Ports {
		s, _ = tree.Hear(s, i+1, tells(bpdu.PDU{Kind: bpdu.Rapid, Role: bpdu.Root, Agreement: true}, p.Vector))
	}
	for i := range s.Ports {
		s.Ports[i].Change = 0
	}
	return s
}

// full state: nothing of it is empty.
func full() record.State {
	s := open(3)
	s.Vlans = append(s.Vlans, vlan.Vlan{Vid: 8, Members: 6, Untagged: 2})
	s.Static = []static.Entry{{Key: key(1, 20), Ports: 2}, {Key: key(8, 1), Ports: 0}}
	s.Fdb = []fdb.Entry{entry(near, 1, 3), entry(far, 2, 0), {Key: key(8, near), Port: 3, Age: 19}}
	for i := range s.Counts {
		s.Counts[i] = uint32(i + 1)
	}
	s.Ports[1].Change, s.Ports[2].Priority, s.Beat = 4, 15, 1
	return s
}

// tells: a PDU with a vector.
func tells(p bpdu.PDU, v vector.Vector) bpdu.PDU {
	p.Root, p.Cost, p.Bridge, p.Port = v.Root, v.Cost, v.Bridge, v.Port
	return p
}

// proposal of a better root, of another bridge.
func proposal() bpdu.PDU {
	return tells(bpdu.PDU{Kind: bpdu.Rapid, Role: bpdu.Designated, Proposal: true, Age: 1}, vector.Vector{Root: 5, Cost: 7, Bridge: 6, Port: 1})
}

// encode a frame.
func encode(t *testing.T, f frame.Frame) string {
	t.Helper()
	s, err := frame.Encode(f)
	if err != api.OK {
		t.Fatalf("no frame: %+v, %d", f, err)
	}
	return s
}

// wrap a PDU, as another bridge sends it.
func wrap(t *testing.T, p bpdu.PDU) string {
	t.Helper()
	f, err := bpdu.Wrap(addr.FromInt(6), p)
	if err != api.OK {
		t.Fatalf("no PDU: %+v, %d", p, err)
	}
	return encode(t, f)
}

// plain frame from one station to another one, without a tag.
func plain(t *testing.T, src, dst uint64) string {
	t.Helper()
	return encode(t, frame.Frame{Src: addr.FromInt(src), Dst: addr.FromInt(dst), Type: 0x800, Data: "abc"})
}

// sending of what layer 18 tells: from the bridge's address, to the group, in bytes.
func sending(t *testing.T, l []tree.Told) []bridge.Sent {
	t.Helper()
	var sent []bridge.Sent
	for _, told := range l {
		s, err := bpdu.Encode(told.PDU)
		if err != api.OK {
			t.Fatalf("no PDU: %+v, %d", told, err)
		}
		front := "\x01\x80\xC2\x00\x00\x00" + "\x00\xA1\xB2\xC3\xD4\xE5" + "\x00\x27"
		sent = append(sent, bridge.Sent{Port: told.Port, Data: front + s})
	}
	return sent
}

// sends what it should.
func sends(t *testing.T, what string, got []bridge.Sent, want ...bridge.Sent) {
	t.Helper()
	if !slices.Equal(got, want) {
		t.Errorf("%s: sent %x, want %x", what, got, want)
	}
}

// is: a bridge has that state.
func is(t *testing.T, what string, b *bridge.Bridge, want record.State) {
	t.Helper()
	if got := b.State(); !record.Same(got, want) {
		t.Errorf("%s: is\n%+v\nwant\n%+v", what, got, want)
	}
}

// plus counts: a state with so many more of them, each of those named once.
func plus(s record.State, l ...int) record.State {
	for _, what := range l {
		s.Counts.Add(what, 1)
	}
	return s
}

// noPorts of a bridge of so many.
func noPorts(n int) []int {
	return []int{0, -1, n + 1, n + 2, 17, 33, 65, 1<<32 + 1, math.MinInt, math.MaxInt}
}

// P20.1: a bridge that is loaded is as the state; that one stays as it was, isn't kept, and what State answers is new memory.
func TestLoad(t *testing.T) {
	for _, s := range []record.State{cold(0), cold(1), cold(16), open(4), full(), cold(3).Cold()} {
		was := s.Clone()
		b := bridge.Load(s)
		is(t, "loaded", b, was)
		got := b.State()
		for _, x := range []record.State{s, got} {
			for i := range x.Ports {
				x.Ports[i].Cost++
			}
			clear(x.Vlans)
			clear(x.Static)
			clear(x.Fdb)
		}
		is(t, "its lists changed", b, was)
		s = was.Clone()
		b = bridge.Load(s)
		b.Start()
		b.Frame(1, plain(t, 9, far))
		b.DropVlan(1)
		b.SetStatic(static.Entry{Key: key(1, 9)})
		b.SetPort(1, record.Port{Port: classify.Port{Pvid: 4094}, Cost: 9})
		b.Switch(1, false, false)
		b.Tick()
		if !record.Same(s, was) {
			t.Errorf("loaded and worked: %+v is %+v", was, s)
		}
	}
}

// P20.1: State lists what is laid down and learnt in order.
func TestStateLists(t *testing.T) {
	b := bridge.Load(open(4))
	for _, n := range []uint64{9, 3, 7, 5} {
		b.SetVlan(vlan.Vlan{Vid: uint16(n), Members: 1})
		b.SetStatic(static.Entry{Key: key(2, n), Ports: 1})
		b.SetStatic(static.Entry{Key: key(1, n), Ports: 2})
		b.Frame(2, plain(t, 2*n, far))
	}
	s := b.State()
	if want := []vlan.Vlan{{Vid: 1, Members: 0xFFFF, Untagged: 0xFFFF}, {Vid: 3, Members: 1}, {Vid: 5, Members: 1}, {Vid: 7, Members: 1}, {Vid: 9, Members: 1}}; !slices.Equal(s.Vlans, want) {
		t.Errorf("VLANs %+v", s.Vlans)
	}
	if want := []fdb.Entry{entry(6, 2, 0), entry(10, 2, 0), entry(14, 2, 0), entry(18, 2, 0)}; !slices.Equal(s.Fdb, want) {
		t.Errorf("learnt %+v", s.Fdb)
	}
	var keys []fdb.Key
	for _, e := range s.Static {
		keys = append(keys, e.Key)
	}
	if want := []fdb.Key{key(1, 3), key(1, 5), key(1, 7), key(1, 9), key(2, 3), key(2, 5), key(2, 7), key(2, 9)}; !slices.Equal(keys, want) {
		t.Errorf("static %+v", s.Static)
	}
}

// P20.1, the example: each port that is on sends a PDU of 53 bytes, in layer 18's order.
func TestStart(t *testing.T) {
	s := cold(5)
	s.Ports[1].Up, s.Ports[3].Admin, s.Ports[4].Edge = false, false, true
	s.Fdb = []fdb.Entry{entry(near, 1, 3)}
	s.Beat = 2
	want, out := tree.Start(s)
	b := bridge.Load(s)
	l := b.Start()
	sends(t, "Start", l, sending(t, out.Told)...)
	if len(l) != 3 || l[0].Port != 1 || l[1].Port != 3 || l[2].Port != 5 || len(l[0].Data) != 53 || len(l[2].Data) != 53 {
		t.Errorf("Start sends %x", l)
	}
	is(t, "Start", b, plus(want, count.Told, count.Told, count.Told))
	again, out := tree.Start(b.State())
	sends(t, "once more", b.Start(), sending(t, out.Told)...)
	is(t, "once more", b, plus(again, count.Told, count.Told, count.Told))
	sends(t, "without ports", bridge.Load(cold(0)).Start())
}

// P20.1: a state that just booted isn't begun by Load alone.
func TestLoadAlone(t *testing.T) {
	b := bridge.Load(cold(3))
	if l, err := b.Frame(1, plain(t, near, far)); len(l) > 0 || err != api.OK {
		t.Errorf("a cold bridge sends %x, %d", l, err)
	}
	is(t, "cold", b, plus(cold(3), count.Frames, count.Closed))
}

// P20.1: each tick what was learnt ages, and those that are too old count as Aged; then it is layer 18's.
func TestTick(t *testing.T) {
	s := open(3)
	s.Fdb = []fdb.Entry{entry(near, 1, 18), entry(far, 2, 17), entry(6, 2, 18), entry(8, 3, 0)}
	s.Beat = 2
	b := bridge.Load(s)
	for n, aged := range []int{0, 2, 1, 0, 0} {
		was := b.State()
		want, out := tree.Tick(was)
		want.Fdb = nil
		for _, e := range was.Fdb {
			if e.Age++; e.Age < 20 {
				want.Fdb = append(want.Fdb, e)
			}
		}
		want.Counts.Add(count.Aged, aged)
		want.Counts.Add(count.Told, len(out.Told))
		sends(t, "Tick", b.Tick(), sending(t, out.Told)...)
		is(t, "Tick", b, want)
		if c := b.State().Counts; n == 4 && (c[count.Aged] != 3 || c[count.Told] != 6 || c[count.Frames] != 0) {
			t.Errorf("counts %v", c)
		}
	}
}

// P20.1: what is too old counts as Aged ahead of what layer 18 flushes, and that counts for nothing.
func TestTickFlush(t *testing.T) {
	s, _ := tree.Start(cold(3))
	for i := range s.Ports[:2] {
		s.Ports[i].State, s.Ports[i].Wait = record.Learning, 1
	}
	s.Fdb = []fdb.Entry{entry(2, 1, 19), entry(4, 1, 0), entry(6, 2, 19), entry(8, 3, 5)}
	b := bridge.Load(s)
	b.Tick()
	got := b.State()
	if len(got.Fdb) != 0 || got.Counts[count.Aged] != 2 || got.Ports[0].State != record.Forwarding {
		t.Errorf("%+v", got)
	}
}

// P20.1: Switch is layer 18's: a port that goes off is flushed; one that there isn't is an error.
func TestSwitch(t *testing.T) {
	for _, was := range []record.State{cold(3), open(3), full()} {
		for port := 1; port <= 3; port++ {
			for _, up := range []bool{false, true} {
				for _, admin := range []bool{false, true} {
					b := bridge.Load(was)
					want, out := tree.Switch(was, port, up, admin)
					want.Fdb = slices.DeleteFunc(want.Fdb, func(e fdb.Entry) bool { return slices.Contains(out.Flush, e.Port) })
					want.Counts.Add(count.Told, len(out.Told))
					l, err := b.Switch(port, up, admin)
					sends(t, "Switch", l, sending(t, out.Told)...)
					is(t, "Switch", b, want)
					if err != api.OK || b.State().Ports[port-1].On() != (up && admin) {
						t.Errorf("port %d switched: %d, %+v", port, err, b.State().Ports)
					}
				}
			}
		}
	}
	b := bridge.Load(full())
	b.Switch(2, false, true)
	if l := b.State().Fdb; !slices.Equal(l, []fdb.Entry{entry(near, 1, 3), {Key: key(8, near), Port: 3, Age: 19}}) {
		t.Errorf("behind the port 2 that is down: %+v", l)
	}
	b.Switch(1, true, false)
	b.Switch(3, false, false)
	if l := b.State().Fdb; len(l) > 0 {
		t.Errorf("behind ports that are off: %+v", l)
	}
	for n := range 4 {
		for _, port := range noPorts(n) {
			b := bridge.Load(open(n))
			if l, err := b.Switch(port, false, false); len(l) > 0 || err != api.ErrPort {
				t.Errorf("Switch of the port %d of %d: %x, %d", port, n, l, err)
			}
			is(t, "no such port", b, open(n))
		}
	}
}

// P20.2: a frame at a port that there isn't counts for nothing.
func TestFrameNoPort(t *testing.T) {
	for n := range 4 {
		b := bridge.Load(open(n))
		for _, port := range noPorts(n) {
			for _, data := range []string{"", plain(t, near, far), wrap(t, proposal())} {
				if l, err := b.Frame(port, data); len(l) > 0 || err != api.ErrPort {
					t.Errorf("Frame at the port %d of %d: %x, %d", port, n, l, err)
				}
			}
		}
		is(t, "no such port", b, open(n))
	}
}

// P20.2: what is no frame counts as Malformed, at any port, and tells layer 4's error.
func TestMalformed(t *testing.T) {
	good := wrap(t, proposal())
	tag := strings.Repeat("\x02", 12) + "\x81\x00\x0F\xFF\x08\x00"
	for data, want := range map[string]api.Errno{
		"": api.ErrShort, "abc": api.ErrShort, good[:13]: api.ErrShort, tag[:17]: api.ErrShort, tag: api.ErrTag,
		good + strings.Repeat("x", 1518): api.ErrLong, strings.Repeat("x", 1519): api.ErrLong,
	} {
		for port := 1; port <= 2; port++ {
			s := open(2)
			s.Ports[1].Up = false
			b := bridge.Load(s)
			if l, err := b.Frame(port, data); len(l) > 0 || err != want {
				t.Errorf("%x: %x, %d, want %d", data, l, err, want)
			}
			is(t, "malformed", b, plus(s, count.Frames, count.Malformed))
		}
	}
}

// spoilt frames to the group, and their errors.
func spoilt(t *testing.T) map[string]api.Errno {
	good, err := bpdu.Wrap(addr.FromInt(6), proposal())
	if err != api.OK {
		t.Fatal(err)
	}
	tagged, long, short, magic, kind, cut := good, good, good, good, good, good
	tagged.Tagged, tagged.Vid = true, 1
	long.Type = 1501
	short.Data = short.Data[:38]
	magic.Data = "\x43" + magic.Data[1:]
	kind.Data = kind.Data[:6] + "\x01" + kind.Data[7:]
	cut.Type--
	return map[string]api.Errno{
		encode(t, tagged): api.ErrForm, encode(t, long): api.ErrForm, encode(t, short): api.ErrShort,
		encode(t, magic): api.ErrForm, encode(t, kind): api.ErrKind, encode(t, cut): api.ErrShort,
	}
}

// P20.2: a frame to the group that is no PDU counts as Spoilt, whatever state the port has, and tells layer 5's error.
func TestSpoilt(t *testing.T) {
	for data, want := range spoilt(t) {
		for _, s := range []record.State{open(2), cold(2), full()} {
			b := bridge.Load(s)
			if l, err := b.Frame(1, data); len(l) > 0 || err != want {
				t.Errorf("%x: %x, %d, want %d", data, l, err, want)
			}
			is(t, "spoilt", b, plus(s, count.Frames, count.Spoilt))
		}
	}
}

// P20.2: a PDU counts as Heard, and layer 18 hears it, whatever state the port has; its source isn't learnt.
func TestHeard(t *testing.T) {
	topology, better := proposal(), proposal()
	topology.Topology, topology.Proposal = true, false
	better.Root = 4
	for _, p := range []bpdu.PDU{proposal(), topology, better, {Kind: bpdu.Change}, {Kind: bpdu.Config}, {Kind: bpdu.Rapid, Role: bpdu.Other}} {
		for _, s := range []record.State{open(3), full(), cold(3)} {
			for port := 1; port <= 3; port++ {
				for _, pad := range []string{"", "padded"} {
					b := bridge.Load(s)
					want, out := tree.Hear(s, port, p)
					want.Fdb = slices.DeleteFunc(want.Fdb, func(e fdb.Entry) bool { return slices.Contains(out.Flush, e.Port) })
					want.Counts.Add(count.Told, len(out.Told))
					l, err := b.Frame(port, wrap(t, p)+pad)
					if err != api.OK {
						t.Errorf("%+v: %d", p, err)
					}
					sends(t, "heard", l, sending(t, out.Told)...)
					is(t, "heard", b, plus(want, count.Frames, count.Heard))
				}
			}
		}
	}
	b := bridge.Load(full())
	b.Frame(1, wrap(t, bpdu.PDU{Kind: bpdu.Change}))
	if l := b.State().Fdb; !slices.Equal(l, []fdb.Entry{entry(near, 1, 3)}) {
		t.Errorf("behind a change there are %+v", l)
	}
}

// P20.2: to the group at a port that is off: closed, be it a PDU or none.
func TestGroupAtClosed(t *testing.T) {
	frames := []string{wrap(t, proposal())}
	for data := range spoilt(t) {
		frames = append(frames, data)
	}
	for _, data := range frames {
		for _, up := range []bool{false, true} {
			s, _ := tree.Switch(open(2), 1, up, !up)
			b := bridge.Load(s)
			if l, err := b.Frame(1, data); len(l) > 0 || err != api.OK {
				t.Errorf("%x: %x, %d", data, l, err)
			}
			is(t, "closed", b, plus(s, count.Frames, count.Closed))
		}
	}
}

// P20.2: other frames are layer 19's: sent in layer 4's bytes, and counted as often as they are sent; new stations count.
func TestForwarded(t *testing.T) {
	s := open(3)
	s.Vlans = append(s.Vlans, vlan.Vlan{Vid: 8, Members: 7, Untagged: 2})
	b := bridge.Load(s)
	bare := frame.Frame{Src: addr.FromInt(near), Dst: addr.FromInt(far), Type: 0x800, Data: "abc"}
	tagged := bare
	tagged.Tagged, tagged.Pcp, tagged.Dei, tagged.Vid = true, 5, true, 8
	l, err := b.Frame(1, encode(t, tagged))
	sends(t, "unknown", l, bridge.Sent{Port: 2, Data: encode(t, bare)}, bridge.Sent{Port: 3, Data: encode(t, tagged)})
	s.Fdb = []fdb.Entry{{Key: key(8, near), Port: 1}}
	s = plus(s, count.Frames, count.Sent, count.Sent, count.Learnt)
	is(t, "unknown", b, s)
	bare.Src, bare.Dst, tagged.Src, tagged.Dst = bare.Dst, bare.Src, tagged.Dst, tagged.Src
	l, wrong := b.Frame(3, encode(t, tagged))
	sends(t, "known", l, bridge.Sent{Port: 1, Data: encode(t, tagged)})
	s.Fdb = append(s.Fdb, fdb.Entry{Key: key(8, far), Port: 3})
	s = plus(s, count.Frames, count.Sent, count.Learnt)
	is(t, "known", b, s)
	l, bad := b.Frame(1, encode(t, tagged))
	sends(t, "at its own port", l)
	s.Fdb[1].Port = 1
	is(t, "at its own port", b, plus(s, count.Frames))
	if err != api.OK || wrong != api.OK || bad != api.OK {
		t.Errorf("%d, %d, %d", err, wrong, bad)
	}
}

// P20.2: each cause by which a frame isn't sent on counts as itself; none is an error.
func TestCauses(t *testing.T) {
	s := open(4)
	s.Ports[1].Accept, s.Ports[2].Filter, s.Ports[3].State = classify.Tagged, true, record.Learning
	s.Ports[3].Wait, s.Ports[3].Agreed = 1, false
	s.Vlans = append(s.Vlans, vlan.Vlan{Vid: 8})
	at := func(vid uint16) string {
		return encode(t, frame.Frame{Src: addr.FromInt(near), Dst: addr.FromInt(far), Tagged: true, Vid: vid})
	}
	for _, x := range []struct {
		port int
		data string
		why  []int
	}{
		{1, plain(t, near, 0x0180C2000001), []int{count.Held}},
		{2, plain(t, near, far), []int{count.Refused}},
		{2, at(9), []int{count.NoVlan}},
		{3, at(8), []int{count.NoMember}},
		{4, plain(t, group, far), []int{count.Closed}},
		{4, plain(t, near, far), []int{count.Closed, count.Learnt}},
		{1, at(8), []int{count.Learnt}},
		{1, plain(t, group, far), []int{count.Sent, count.Sent}},
	} {
		b := bridge.Load(s)
		if _, err := b.Frame(x.port, x.data); err != api.OK {
			t.Errorf("%+v: %d", x, err)
		}
		if got, want := b.State().Counts, plus(plus(s, count.Frames), x.why...).Counts; got != want {
			t.Errorf("%+v: counts %v, want %v", x, got, want)
		}
	}
}

// P20.2: where there is no room for a new station, another one goes, and both count.
func TestEvicted(t *testing.T) {
	s := open(3)
	s.Fdb = []fdb.Entry{entry(10, 1, 4), entry(11, 2, 9), entry(12, 2, 9), entry(13, 3, 0)}
	b := bridge.Load(s)
	b.Frame(1, plain(t, 14, 12))
	s.Fdb = []fdb.Entry{entry(10, 1, 4), entry(12, 2, 9), entry(13, 3, 0), entry(14, 1, 0)}
	is(t, "evicted", b, plus(s, count.Frames, count.Sent, count.Learnt, count.Evicted))
}

// P20.1, P20.2: counts go on from those that were loaded, and stay at their greatest number.
func TestCountsGoOn(t *testing.T) {
	s := open(3)
	for i := range s.Counts {
		s.Counts[i] = math.MaxUint32 - uint32(i%2)
	}
	b := bridge.Load(s)
	for range 3 {
		b.Frame(1, plain(t, near, far))
		b.Frame(1, "")
		b.Frame(1, wrap(t, bpdu.PDU{Kind: bpdu.Change}))
		b.Start()
	}
	want := s.Counts
	for _, what := range []int{count.Frames, count.Malformed, count.Sent, count.Learnt, count.Heard, count.Told, count.Closed} {
		want[what] = math.MaxUint32
	}
	if got := b.State().Counts; got != want {
		t.Errorf("counts %v, want %v", got, want)
	}
}

// P20.3: VLANs and static entries are laid and taken away as layers 8 and 10 do; their errors change nothing.
func TestTables(t *testing.T) {
	b := bridge.Load(full())
	s := full()
	for _, x := range []struct {
		what      string
		got, want api.Errno
	}{
		{"VLAN 0", b.SetVlan(vlan.Vlan{}), api.ErrVlan},
		{"VLAN 4095", b.SetVlan(vlan.Vlan{Vid: 4095}), api.ErrVlan},
		{"bits that are no ports", b.SetVlan(vlan.Vlan{Vid: 9, Members: 1 << 16}), api.ErrPort},
		{"no such VLAN", b.DropVlan(9), api.ErrNone},
		{"static of VLAN 0", b.SetStatic(static.Entry{Key: key(0, 2)}), api.ErrVlan},
		{"static, reserved", b.SetStatic(static.Entry{Key: key(1, 0x0180C2000000)}), api.ErrRange},
		{"static, no ports", b.SetStatic(static.Entry{Key: key(1, 2), Ports: 1 << 16}), api.ErrPort},
		{"no such static entry", b.DropStatic(key(8, 20)), api.ErrNone},
	} {
		if x.got != x.want {
			t.Errorf("%s: %d, want %d", x.what, x.got, x.want)
		}
	}
	is(t, "refused", b, s)
	if err := b.SetVlan(vlan.Vlan{Vid: 8, Members: 3}); err != api.OK {
		t.Errorf("SetVlan: %d", err)
	}
	s.Vlans[1] = vlan.Vlan{Vid: 8, Members: 3}
	is(t, "a VLAN anew", b, s)
	if err := b.SetStatic(static.Entry{Key: key(1, 20), Ports: 5}); err != api.OK {
		t.Errorf("SetStatic: %d", err)
	}
	s.Static[0].Ports = 5
	is(t, "a static entry anew", b, s)
	if err := b.DropStatic(key(8, 1)); err != api.OK {
		t.Errorf("DropStatic: %d", err)
	}
	s.Static = s.Static[:1]
	is(t, "a static entry less", b, s)
	if err := b.SetVlan(vlan.Vlan{Vid: 9}); err != api.OK {
		t.Errorf("SetVlan: %d", err)
	}
	s.Vlans = append(s.Vlans, vlan.Vlan{Vid: 9})
	is(t, "a VLAN more", b, s)
	if err := b.SetStatic(static.Entry{Key: key(7, 20), Ports: 5}); err != api.OK {
		t.Errorf("SetStatic: %d", err)
	}
	s.Static = append(s.Static, static.Entry{Key: key(7, 20), Ports: 5})
	is(t, "a static entry more", b, s)
}

// P20.3: tables that are full tell so.
func TestTablesFull(t *testing.T) {
	b := bridge.Load(cold(1))
	for n := range uint16(16) {
		if v, e := b.SetVlan(vlan.Vlan{Vid: n + 1}), b.SetStatic(static.Entry{Key: key(n+1, 2)}); v != api.OK || e != api.OK {
			t.Errorf("%d: %d, %d", n, v, e)
		}
	}
	if v, e := b.SetVlan(vlan.Vlan{Vid: 17}), b.SetStatic(static.Entry{Key: key(17, 2)}); v != api.ErrFull || e != api.ErrFull {
		t.Errorf("full: %d, %d", v, e)
	}
}

// P20.3: where a VLAN is dropped, what was learnt of it is gone, and of no other one; it counts for nothing.
func TestDropVlan(t *testing.T) {
	b, s := bridge.Load(full()), full()
	if err := b.DropVlan(1); err != api.OK {
		t.Errorf("DropVlan: %d", err)
	}
	s.Vlans, s.Fdb = s.Vlans[1:], s.Fdb[2:]
	is(t, "without the VLAN 1", b, s)
	if err := b.DropVlan(1); err != api.ErrNone {
		t.Errorf("once more: %d", err)
	}
	is(t, "once more", b, s)
	b.SetVlan(full().Vlans[0])
	s.Vlans = full().Vlans
	is(t, "laid once more", b, s)
	b.SetVlan(vlan.Vlan{Vid: 8}) // laid anew, it isn't dropped
	s.Vlans[1] = vlan.Vlan{Vid: 8}
	is(t, "laid anew", b, s)
}

// P20.3: what is laid down counts for the frames behind it.
func TestTablesInUse(t *testing.T) {
	b := bridge.Load(open(4))
	f := plain(t, group, far)
	at := func(want ...int) {
		t.Helper()
		l, _ := b.Frame(1, f)
		var got []int
		for _, s := range l {
			got = append(got, s.Port)
		}
		if !slices.Equal(got, want) {
			t.Errorf("sent at %v, want %v", got, want)
		}
	}
	at(2, 3, 4)
	b.SetVlan(vlan.Vlan{Vid: 1, Members: 7, Untagged: 7})
	at(2, 3)
	b.SetStatic(static.Entry{Key: key(1, far), Ports: 10})
	at(2)
	b.DropStatic(key(1, far))
	at(2, 3)
	b.Frame(3, plain(t, far, near))
	at(3)
	b.DropVlan(1)
	at()
	b.SetVlan(vlan.Vlan{Vid: 1, Members: 15, Untagged: 15})
	at(2, 3, 4)
}

// settings of a port, none of which are those of any other bridge here.
func settings() record.Port {
	return record.Port{Port: classify.Port{Pvid: 8, Accept: classify.Untagged, Filter: true}, Cost: 77, Priority: 9, Edge: true}
}

// P20.3: a port gets settings alone; then it is chosen.
func TestSetPort(t *testing.T) {
	all := settings()
	all.Admin, all.Up, all.Plain, all.Agreed = true, true, true, true
	all.Role, all.State, all.Info, all.Age, all.Life, all.Wait, all.Change = 3, 2, 2, 1, 1, 1, 1
	all.Vector.Root = 1
	heard, _ := tree.Hear(open(3), 2, proposal())
	off, _ := tree.Switch(full(), 1, false, true)
	shut, _ := tree.Switch(full(), 3, true, false)
	for _, s := range []record.State{cold(3), open(3), full(), heard, off, shut} {
		for _, p := range []record.Port{settings(), all} {
			for port := 1; port <= 3; port++ {
				set := s.Clone()
				own := &set.Ports[port-1]
				own.Port, own.Cost, own.Priority, own.Edge = settings().Port, 77, 9, true
				want, out := tree.Switch(set, port, own.Up, own.Admin)
				want.Fdb = slices.DeleteFunc(want.Fdb, func(e fdb.Entry) bool { return slices.Contains(out.Flush, e.Port) })
				want.Counts.Add(count.Told, len(out.Told))
				b := bridge.Load(s)
				l, err := b.SetPort(port, p)
				if err != api.OK {
					t.Errorf("SetPort of %d: %d", port, err)
				}
				sends(t, "SetPort", l, sending(t, out.Told)...)
				is(t, "SetPort", b, want)
			}
		}
	}
}

// P20.3: a root port that costs more is none; a designated one with another priority tells so; one that is at the edge forwards.
func TestSetPortChooses(t *testing.T) {
	s, _ := tree.Hear(open(3), 1, proposal())
	other := proposal()
	other.Cost++
	s, _ = tree.Hear(s, 2, other)
	b := bridge.Load(s)
	p := s.Ports[0]
	p.Cost = 12
	l, err := b.SetPort(1, p)
	if got := b.State().Ports; err != api.OK || got[0].Role != record.Alternate || got[1].Role != record.Root || len(l) != 1 || l[0].Port != 3 {
		t.Errorf("a dearer root port: %x, %d, %+v", l, err, got)
	}
	p = s.Ports[2]
	p.Priority = 15
	l, err = b.SetPort(3, p)
	if got := b.State().Ports[2]; err != api.OK || got.Vector.Port != 0xF003 || len(l) != 1 || l[0].Port != 3 {
		t.Errorf("another priority: %x, %d, %+v", l, err, got)
	}
	b = bridge.Load(cold(2))
	b.Start()
	p = cold(2).Ports[0]
	p.Edge = true
	if l, err = b.SetPort(1, p); err != api.OK || len(l) > 0 || b.State().Ports[0].State != record.Forwarding {
		t.Errorf("at the edge: %x, %d, %+v", l, err, b.State().Ports[0])
	}
	p.Edge, p.Admin = false, false
	if _, err = b.SetPort(1, p); err != api.OK || b.State().Ports[0].State != record.Forwarding || !b.State().Ports[0].Admin {
		t.Errorf("not at the edge any more: %d, %+v", err, b.State().Ports[0])
	}
}

// P20.3: settings that may not be, in their order; nothing changes by them.
func TestSetPortErrors(t *testing.T) {
	good := settings()
	for _, x := range []struct {
		change func(p *record.Port)
		want   api.Errno
	}{
		{func(p *record.Port) { p.Pvid = 0 }, api.ErrVlan},
		{func(p *record.Port) { p.Pvid = 4095 }, api.ErrVlan},
		{func(p *record.Port) { p.Accept = -1 }, api.ErrVlan},
		{func(p *record.Port) { p.Accept = 3 }, api.ErrVlan},
		{func(p *record.Port) { p.Cost = 0 }, api.ErrRange},
		{func(p *record.Port) { p.Cost = 200000001 }, api.ErrRange},
		{func(p *record.Port) { p.Cost = math.MaxUint32 }, api.ErrRange},
		{func(p *record.Port) { p.Priority = -1 }, api.ErrRange},
		{func(p *record.Port) { p.Priority = 16 }, api.ErrRange},
		{func(p *record.Port) { p.Priority = math.MinInt }, api.ErrRange},
		{func(p *record.Port) { p.Priority = math.MaxInt }, api.ErrRange},
		{func(p *record.Port) { p.Cost, p.Priority, p.Pvid = 0, 16, 0 }, api.ErrVlan},
		{func(p *record.Port) { p.Cost = 1 }, api.OK},
		{func(p *record.Port) { p.Cost = 200000000 }, api.OK},
		{func(p *record.Port) { p.Priority = 0 }, api.OK},
		{func(p *record.Port) { p.Priority = 15 }, api.OK},
		{func(p *record.Port) { p.Pvid = 1 }, api.OK},
		{func(p *record.Port) { p.Pvid, p.Accept = 4094, classify.All }, api.OK},
	} {
		p := good
		x.change(&p)
		b := bridge.Load(full())
		l, err := b.SetPort(2, p)
		if err != x.want {
			t.Errorf("SetPort(%+v) = %d, want %d", p, err, x.want)
		}
		if x.want != api.OK {
			sends(t, "refused", l)
			is(t, "refused", b, full())
		}
		for _, port := range noPorts(3) {
			b := bridge.Load(full())
			if l, err := b.SetPort(port, p); len(l) > 0 || err != api.ErrPort {
				t.Errorf("SetPort of %d: %x, %d", port, l, err)
			}
			is(t, "no such port", b, full())
		}
	}
}

// P20.3: of nil: nothing, a zero state, ErrArg, also where other errors apply.
func TestNil(t *testing.T) {
	var b *bridge.Bridge
	sends(t, "Start", b.Start())
	sends(t, "Tick", b.Tick())
	is(t, "State", b, record.State{})
	for _, port := range []int{1, 0, -1, 17} {
		for _, data := range []string{"", plain(t, near, far), wrap(t, proposal())} {
			if l, err := b.Frame(port, data); len(l) > 0 || err != api.ErrArg {
				t.Errorf("Frame: %x, %d", l, err)
			}
		}
		if l, err := b.Switch(port, true, true); len(l) > 0 || err != api.ErrArg {
			t.Errorf("Switch: %x, %d", l, err)
		}
		for _, p := range []record.Port{{}, settings()} {
			if l, err := b.SetPort(port, p); len(l) > 0 || err != api.ErrArg {
				t.Errorf("SetPort: %x, %d", l, err)
			}
		}
	}
	for _, vid := range []uint16{0, 1} {
		if err := b.SetVlan(vlan.Vlan{Vid: vid}); err != api.ErrArg {
			t.Errorf("SetVlan: %d", err)
		}
		if err := b.DropVlan(vid); err != api.ErrArg {
			t.Errorf("DropVlan: %d", err)
		}
		if err := b.SetStatic(static.Entry{Key: key(vid, 2), Ports: ports.Of(1)}); err != api.ErrArg {
			t.Errorf("SetStatic: %d", err)
		}
		if err := b.DropStatic(key(vid, 2)); err != api.ErrArg {
			t.Errorf("DropStatic: %d", err)
		}
	}
}

// the whole's example: two ports at the edge and one that isn't: a frame goes to the other one at the edge alone, till twice Delay ticks are over: then to both.
func TestEdges(t *testing.T) {
	s := cold(3)
	s.Ports[0].Edge, s.Ports[1].Edge = true, true
	b := bridge.Load(s)
	b.Start()
	for n := range 10 {
		want := []bridge.Sent{{Port: 2, Data: plain(t, near, far)}}
		if n >= 2*s.Delay {
			want = append(want, bridge.Sent{Port: 3, Data: plain(t, near, far)})
		}
		l, _ := b.Frame(1, plain(t, near, far))
		sends(t, "at the edge", l, want...)
		b.Tick()
	}
}

// the shown fields are all, in their order.
func TestFields(t *testing.T) {
	if got := (bridge.Sent{7, "abc"}); got.Port != 7 || got.Data != "abc" {
		t.Errorf("%+v", got)
	}
}
