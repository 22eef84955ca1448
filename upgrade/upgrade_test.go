package upgrade_test

import (
	"slices"
	"testing"

	"girder/addr"
	"girder/api"
	"girder/bpdu"
	"girder/bridge"
	"girder/classify"
	"girder/count"
	"girder/fdb"
	"girder/frame"
	"girder/image"
	"girder/record"
	"girder/static"
	"girder/upgrade"
	"girder/vector"
	"girder/vlan"
)

// key of a VLAN's number, and an address' number.
func key(vid uint16, n uint64) fdb.Key {
	return fdb.Key{Vid: vid, Mac: addr.FromInt(n)}
}

// boots: a cold state of so many ports, all on, the third one at the edge.
func boots(n int) record.State {
	s := record.State{Config: record.Config{ID: 9, MaxAge: 8, Hello: 2, Delay: 3, Room: 4, Live: 20}}
	for i := range n {
		p := record.Port{Port: classify.Port{Pvid: 1, Accept: i % 2}, Cost: uint32(10 + i), Priority: i, Edge: i == 2, Admin: true, Up: true}
		s.Ports = append(s.Ports, p)
	}
	s.Vlans = []vlan.Vlan{{Vid: 1, Members: 0xFFFF, Untagged: 0xFFFF}, {Vid: 8, Members: 6, Untagged: 2}}
	s.Static = []static.Entry{{Key: key(1, 20), Ports: 2}, {Key: key(8, 1), Ports: 0}}
	return s
}

// off: a state of which no port is on, by its link or as it may not take part, at all or in turn.
func off(s record.State) record.State {
	s = s.Clone()
	for i := range s.Ports {
		s.Ports[i].Up, s.Ports[i].Admin = i%3 == 1, i%3 == 2
	}
	return s
}

// machine that boots with a state.
func machine(t *testing.T, boot record.State) *upgrade.Machine {
	t.Helper()
	m, _, err := upgrade.New(boot)
	if m == nil || err != api.OK {
		t.Fatalf("New of %+v: %v, %d", boot, m, err)
	}
	return m
}

// does something with a machine's bridge, which goes well.
func does(t *testing.T, m *upgrade.Machine, act func(b *bridge.Bridge)) {
	t.Helper()
	if _, err := m.Do(func(b *bridge.Bridge) ([]bridge.Sent, api.Errno) { act(b); return nil, api.OK }); err != api.OK {
		t.Fatalf("Do: %d", err)
	}
}

// hears a root of such a number at a port, at some cost.
func hears(b *bridge.Bridge, port int, root addr.ID, cost uint32) {
	p := bpdu.PDU{Kind: bpdu.Rapid, Role: bpdu.Designated, Proposal: true, Age: 1, Root: root, Cost: cost, Bridge: 7, Port: uint16(port)}
	f, _ := bpdu.Wrap(addr.FromInt(7), p)
	s, _ := frame.Encode(f)
	b.Frame(port, s)
}

// station's frame comes at a port.
func station(b *bridge.Bridge, port int, n uint64) {
	s, _ := frame.Encode(frame.Frame{Src: addr.FromInt(n), Dst: addr.FromInt(2), Type: 0x800})
	b.Frame(port, s)
}

// work: a bridge of four ports or more gets ones of most kinds, stations, counts, and other VLANs and entries than it boots with.
func work(b *bridge.Bridge) {
	for range 3 {
		b.Tick()
	}
	hears(b, 1, 5, 7)
	hears(b, 2, 5, 16)
	b.Tick()
	station(b, 3, 4)
	station(b, 1, 6)
	b.Frame(3, "malformed")
	b.SetVlan(vlan.Vlan{Vid: 30, Members: 3})
	b.SetStatic(static.Entry{Key: key(30, 2), Ports: 1})
	b.DropStatic(key(8, 1))
}

// worked: a machine of four ports, that works.
func worked(t *testing.T) *upgrade.Machine {
	t.Helper()
	m := machine(t, boots(4))
	does(t, m, work)
	s := m.State()
	if len(s.Fdb) != 2 || len(s.Vlans) != 3 || s.Beat == 0 || s.Ports[0].Role != record.Root || s.Ports[1].Role != record.Alternate || s.Ports[2].State != record.Forwarding || s.Ports[3].Role != record.Designated {
		t.Fatalf("it doesn't work: %+v", s)
	}
	return m
}

// frozen: a machine that works, and is frozen.
func frozen(t *testing.T) *upgrade.Machine {
	t.Helper()
	m := worked(t)
	freezes(t, m, api.OK)
	return m
}

// freezes, and is answered that.
func freezes(t *testing.T, m *upgrade.Machine, want api.Errno) {
	t.Helper()
	if err := m.Freeze(); err != want || m.Frozen() != (m != nil) {
		t.Fatalf("Freeze: %d, want %d; Frozen tells %v", err, want, m.Frozen())
	}
}

// imports bytes, and is answered that; it stays frozen.
func imports(t *testing.T, what string, m *upgrade.Machine, b string, want api.Errno) {
	t.Helper()
	if err := m.Import(b); err != want || !m.Frozen() {
		t.Fatalf("%s: Import: %d, want %d; Frozen tells %v", what, err, want, m.Frozen())
	}
}

// resumes, and sends that.
func resumes(t *testing.T, what string, m *upgrade.Machine, want []bridge.Sent) {
	t.Helper()
	l, err := m.Resume()
	if err != api.OK || m.Frozen() {
		t.Fatalf("%s: Resume: %d; Frozen tells %v", what, err, m.Frozen())
	}
	sends(t, what, l, want)
}

// sends what it should.
func sends(t *testing.T, what string, got, want []bridge.Sent) {
	t.Helper()
	if !slices.Equal(got, want) {
		t.Fatalf("%s: sent %x, want %x", what, got, want)
	}
}

// is: a machine's bridge has that state.
func is(t *testing.T, what string, m *upgrade.Machine, want record.State) {
	t.Helper()
	if got := m.State(); !record.Same(got, want) {
		t.Fatalf("%s: is\n%+v\nwant\n%+v", what, got, want)
	}
}

// encode a state as a version's image.
func encode(t *testing.T, s record.State, version uint8) string {
	t.Helper()
	b, err := image.Encode(s, version)
	if err != api.OK {
		t.Fatalf("no image of version %d of %+v: %d", version, s, err)
	}
	return b
}

// started bridge of a state: its state, and what it sends.
func started(s record.State) (record.State, []bridge.Sent) {
	b := bridge.Load(s)
	l := b.Start()
	return b.State(), l
}

// P25.1: it boots with a state, and its bridge starts: each port that is on tells.
func TestNew(t *testing.T) {
	for n := range 17 {
		for _, boot := range []record.State{boots(n), off(boots(n))} {
			m, l, err := upgrade.New(boot)
			if m == nil || err != api.OK || m.Frozen() {
				t.Fatalf("New of %d ports: %v, %d", n, m, err)
			}
			ons := 0
			for _, p := range boot.Ports {
				if p.On() {
					ons++
				}
			}
			if len(l) != ons || m.State().Counts[count.Told] != uint32(ons) {
				t.Errorf("of %d ports that are on %d told", ons, len(l))
			}
			want, told := started(boot)
			sends(t, "New", l, told)
			is(t, "New", m, want)
		}
	}
}

// P25.1: of a state that isn't cold its Cold counts alone, whatever else is wrong in it.
func TestNewOfBegun(t *testing.T) {
	begun := worked(t).State()
	want, told := started(begun.Cold())
	for what, spoil := range map[string]func(s *record.State){
		"nothing": func(*record.State) {},
		"Role":    func(s *record.State) { s.Ports[0].Role = 9 },
		"State":   func(s *record.State) { s.Ports[1].State = -1 },
		"Vector":  func(s *record.State) { s.Ports[2].Vector = vector.Vector{Root: 1} },
		"Wait":    func(s *record.State) { s.Ports[3].Wait = 1 << 40 },
		"Beat":    func(s *record.State) { s.Beat = -7 },
		"Fdb":     func(s *record.State) { s.Fdb = make([]fdb.Entry, 99) },
		"Counts":  func(s *record.State) { s.Counts[3] = 1<<32 - 1 },
	} {
		s := begun.Clone()
		spoil(&s)
		m, l, err := upgrade.New(s)
		if err != api.OK {
			t.Fatalf("%s: %d", what, err)
		}
		sends(t, what, l, told)
		is(t, what, m, want)
	}
}

// P25.1: what layer 22 finds wrong in a cold state, and no machine by it.
func TestNewErrors(t *testing.T) {
	for _, c := range []struct {
		want   api.Errno
		change func(s *record.State)
	}{
		{api.ErrRange, func(s *record.State) { s.MaxAge = 5 }},
		{api.ErrRange, func(s *record.State) { s.MaxAge = 41 }},
		{api.ErrRange, func(s *record.State) { s.Hello = 0 }},
		{api.ErrRange, func(s *record.State) { s.Delay = 31 }},
		{api.ErrRange, func(s *record.State) { s.Room = 65 }},
		{api.ErrRange, func(s *record.State) { s.Live = 1001 }},
		{api.ErrPort, func(s *record.State) { s.Ports = boots(17).Ports }},
		{api.ErrPort, func(s *record.State) { s.Ports = make([]record.Port, 17) }},
		{api.ErrVlan, func(s *record.State) { s.Ports[3].Pvid = 0 }},
		{api.ErrVlan, func(s *record.State) { s.Ports[0].Accept = 3 }},
		{api.ErrRange, func(s *record.State) { s.Ports[1].Cost = 0 }},
		{api.ErrRange, func(s *record.State) { s.Ports[1].Cost = 200000001 }},
		{api.ErrRange, func(s *record.State) { s.Ports[2].Priority = 16 }},
		{api.ErrFull, func(s *record.State) { s.Vlans = make([]vlan.Vlan, 17) }},
		{api.ErrOrder, func(s *record.State) { s.Vlans[1].Vid = 1 }},
		{api.ErrVlan, func(s *record.State) { s.Vlans[1].Vid = 4095 }},
		{api.ErrPort, func(s *record.State) { s.Vlans[0].Members = 1 }},
		{api.ErrFull, func(s *record.State) { s.Static = make([]static.Entry, 17) }},
		{api.ErrOrder, func(s *record.State) { s.Static[0], s.Static[1] = s.Static[1], s.Static[0] }},
		{api.ErrPort, func(s *record.State) { s.Static[0].Ports = 1 << 16 }},
		{api.ErrRange, func(s *record.State) { *s = record.State{} }},
	} {
		s := boots(4)
		c.change(&s)
		if m, l, err := upgrade.New(s); m != nil || len(l) > 0 || err != c.want {
			t.Errorf("New of %+v: %v, %x, %d, want the error %d alone", s, m, l, err, c.want)
		}
	}
}

// P25.1: what it boots with stays as it was, and isn't kept; what State tells is new memory.
func TestKeepsNothing(t *testing.T) {
	boot := boots(4)
	m := machine(t, boot)
	does(t, m, work)
	if !record.Same(boot, boots(4)) {
		t.Errorf("New, and work, made of it %+v", boot)
	}
	for _, s := range []record.State{boot, m.State()} {
		for i := range s.Ports {
			s.Ports[i].Cost++
		}
		clear(s.Vlans)
		clear(s.Static)
		clear(s.Fdb)
	}
	is(t, "its lists changed", m, worked(t).State())
	freezes(t, m, api.OK)
	imports(t, "refused", m, "", api.ErrShort)
	is(t, "refused", m, boots(4))
	s := m.State()
	clear(s.Ports)
	clear(s.Vlans)
	clear(s.Static)
	imports(t, "refused again", m, "", api.ErrShort)
	is(t, "refused again", m, boots(4))
}

// P25.1: act is called once, with its bridge; what it answers is the answer, be it an error, too.
func TestDo(t *testing.T) {
	m := worked(t)
	for _, err := range []api.Errno{api.OK, api.ErrPort, api.ErrMode, api.ErrArg, -1, 99} {
		for _, want := range [][]bridge.Sent{nil, {}, {{Port: 3, Data: "abc"}, {Port: 99}, {Port: -1, Data: "x"}}} {
			calls := 0
			l, got := m.Do(func(b *bridge.Bridge) ([]bridge.Sent, api.Errno) {
				calls++
				if b == nil || !record.Same(b.State(), m.State()) {
					t.Errorf("called with %+v", b)
				}
				return want, err
			})
			sends(t, "Do", l, want)
			if got != err || calls != 1 {
				t.Errorf("Do: %d, want %d; called %d times", got, err, calls)
			}
		}
	}
	is(t, "nothing done", m, worked(t).State())
	b := bridge.Load(m.State())
	want := b.Tick()
	l, err := m.Do(func(b *bridge.Bridge) ([]bridge.Sent, api.Errno) { return b.Tick(), api.OK })
	sends(t, "a tick", l, want)
	is(t, "a tick", m, b.State())
	if _, err = m.Do(func(b *bridge.Bridge) ([]bridge.Sent, api.Errno) { return b.Frame(9, "") }); err != api.ErrPort {
		t.Errorf("a frame at no port: %d", err)
	}
	is(t, "a frame at no port", m, b.State())
}

// P25.1, and the example: where it is frozen, act isn't called.
func TestDoFrozen(t *testing.T) {
	m := frozen(t)
	act := func(*bridge.Bridge) ([]bridge.Sent, api.Errno) {
		t.Error("called")
		return []bridge.Sent{{Port: 1}}, api.OK
	}
	for range 2 {
		if l, err := m.Do(act); len(l) > 0 || err != api.ErrMode {
			t.Errorf("Do of a frozen one: %x, %d", l, err)
		}
	}
	is(t, "frozen", m, worked(t).State())
}

// P25.1: a function that is none is an error, be it frozen or not.
func TestDoNothing(t *testing.T) {
	for _, m := range []*upgrade.Machine{worked(t), frozen(t), nil} {
		was := m.State()
		if l, err := m.Do(nil); len(l) > 0 || err != api.ErrArg {
			t.Errorf("Do of nil: %x, %d", l, err)
		}
		is(t, "nothing done", m, was)
	}
}

// P25.2: what asks for a frozen machine, and what asks for one that isn't; nothing changes by these errors.
func TestModes(t *testing.T) {
	m := worked(t)
	img := encode(t, boots(4), 1)
	for range 2 {
		was := m.State()
		if b, err := m.Export(3); b != "" || err != api.ErrMode {
			t.Errorf("Export: %x, %d", b, err)
		}
		if b, err := m.Export(9); b != "" || err != api.ErrMode {
			t.Errorf("Export of no version: %x, %d", b, err)
		}
		for _, b := range []string{img, "", encode(t, boots(3), 3)} {
			if err := m.Import(b); err != api.ErrMode {
				t.Errorf("Import: %d", err)
			}
		}
		if l, err := m.Resume(); len(l) > 0 || err != api.ErrMode {
			t.Errorf("Resume: %x, %d", l, err)
		}
		if m.Frozen() {
			t.Error("frozen by errors")
		}
		is(t, "not frozen", m, was)
		freezes(t, m, api.OK)
		freezes(t, m, api.ErrMode)
		freezes(t, m, api.ErrMode)
		is(t, "frozen", m, was)
		resumes(t, "frozen", m, nil)
		is(t, "resumed", m, was)
		does(t, m, func(b *bridge.Bridge) { b.Tick() })
	}
}

// P25.2: layer 23's image of its State, as often as it is asked for; a version that there isn't is an error.
func TestExport(t *testing.T) {
	m := frozen(t)
	was := m.State()
	for version := range 256 {
		b, err := m.Export(uint8(version))
		want, wrong := image.Encode(was, uint8(version))
		if b != want || err != wrong || (err == api.OK) != (version >= 1 && version <= 3) {
			t.Errorf("Export of version %d: %x, %d, want %x, %d", version, b, err, want, wrong)
		}
		if err != api.OK && (b != "" || err != api.ErrKind) {
			t.Errorf("Export of version %d: %x, %d", version, b, err)
		}
		is(t, "exported", m, was)
	}
	if !m.Frozen() {
		t.Error("exported, and not frozen any more")
	}
}

// P25.1, P25.2: of nil.
func TestNil(t *testing.T) {
	var m *upgrade.Machine
	if m.Frozen() {
		t.Error("frozen")
	}
	is(t, "nil", m, record.State{})
	act := func(*bridge.Bridge) ([]bridge.Sent, api.Errno) {
		t.Error("called")
		return nil, api.OK
	}
	if l, err := m.Do(act); len(l) > 0 || err != api.ErrArg {
		t.Errorf("Do: %x, %d", l, err)
	}
	freezes(t, m, api.ErrArg)
	for _, version := range []uint8{0, 1, 3, 4} {
		if b, err := m.Export(version); b != "" || err != api.ErrArg {
			t.Errorf("Export: %x, %d", b, err)
		}
	}
	for _, b := range []string{"", encode(t, boots(2), 3)} {
		if err := m.Import(b); err != api.ErrArg {
			t.Errorf("Import: %d", err)
		}
	}
	if l, err := m.Resume(); len(l) > 0 || err != api.ErrArg {
		t.Errorf("Resume: %x, %d", l, err)
	}
}
