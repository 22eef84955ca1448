package upgrade_test

import (
	"testing"

	"girder/addr"
	"girder/api"
	"girder/bridge"
	"girder/classify"
	"girder/frame"
	"girder/image"
	"girder/ports"
	"girder/record"
	"girder/static"
	"girder/upgrade"
	"girder/vlan"
)

// act on a bridge.
type act func(b *bridge.Bridge) ([]bridge.Sent, api.Errno)

// node of a lab.
type node interface {
	do(a act) []bridge.Sent
	state() record.State
	upgrade(version uint8) []bridge.Sent // 0: by bytes that are refused
}

// real node: a machine, that is frozen, exported, imported, and resumed.
type real struct {
	t *testing.T
	m *upgrade.Machine
}

func (r real) do(a act) []bridge.Sent {
	l, _ := r.m.Do(a)
	return l
}

func (r real) state() record.State {
	return r.m.State()
}

func (r real) upgrade(version uint8) []bridge.Sent {
	r.t.Helper()
	freezes(r.t, r.m, api.OK)
	b, err := r.m.Export(max(version, 1))
	if err != api.OK {
		r.t.Fatalf("Export: %d", err)
	}
	if version > 0 {
		imports(r.t, "upgraded", r.m, b, api.OK)
	} else {
		imports(r.t, "refused", r.m, b[1:]+"\x00", api.ErrMagic)
	}
	l, err := r.m.Resume()
	if err != api.OK {
		r.t.Fatalf("Resume: %d", err)
	}
	return l
}

// said node: a bridge, and what the chapter says of it in the end.
type said struct {
	b    *bridge.Bridge
	boot record.State
}

func (s *said) do(a act) []bridge.Sent {
	l, _ := a(s.b)
	return l
}

func (s *said) state() record.State {
	return s.b.State()
}

func (s *said) upgrade(version uint8) []bridge.Sent {
	switch version {
	case 0:
		s.b = bridge.Load(s.boot)
	case 1, 2:
		s.b = bridge.Load(image.Lift(s.b.State(), version))
	default:
		return nil
	}
	return s.b.Start()
}

// draw of numbers that come one behind the other, none by chance.
type draw uint64

// next number below a bound.
func (d *draw) next(bound int) int {
	*d = *d*6364136223846793005 + 1442695040888963407
	return int(uint64(*d>>33) % uint64(bound))
}

// lab: three bridges in a ring of their ports 1 and 2; each one's ports 3 and 4 are joined to one another, and a station is at port 5.
type lab struct {
	draw
	nodes [3]node
	way   []frameAt // frames that didn't come yet
}

// frameAt a bridge's port.
type frameAt struct {
	bridge, port int
	data         string
}

// booted state of a bridge of a lab.
func (d *draw) booted(i int) record.State {
	s := record.State{Config: record.Config{ID: addr.ID(5 + d.next(3) + 3*i), MaxAge: 6 + d.next(35), Hello: 1 + d.next(3), Delay: 1 + d.next(4), Room: 1 + d.next(6), Live: 1 + d.next(9)}}
	for range 5 {
		p := record.Port{Port: classify.Port{Pvid: uint16(1 + d.next(2))}, Cost: uint32(1 + d.next(900)), Priority: d.next(16), Edge: d.next(6) == 0, Admin: d.next(9) > 0, Up: d.next(9) > 0}
		s.Ports = append(s.Ports, p)
	}
	s.Vlans = []vlan.Vlan{{Vid: 1, Members: 31, Untagged: 31}, {Vid: 2, Members: 31, Untagged: ports.Set(d.next(32))}}
	return s
}

// newLab of machines, or of what is said of them, all started.
func newLab(t *testing.T, seed int, machines bool) *lab {
	n := &lab{draw: draw(seed)}
	var told [3][]bridge.Sent
	for i := range n.nodes {
		boot := n.booted(i)
		if machines {
			m, l, err := upgrade.New(boot)
			if err != api.OK {
				t.Fatalf("New: %d", err)
			}
			n.nodes[i], told[i] = real{t, m}, l
		} else {
			b := bridge.Load(boot)
			n.nodes[i], told[i] = &said{b, boot}, b.Start()
		}
	}
	for i, l := range told {
		n.send(i, l)
	}
	return n
}

// send what a bridge tells, to where its ports lead; but for what would be a storm.
func (n *lab) send(i int, l []bridge.Sent) {
	for _, s := range l {
		to := map[int]frameAt{1: {(i + 1) % 3, 2, s.Data}, 2: {(i + 2) % 3, 1, s.Data}, 3: {i, 4, s.Data}, 4: {i, 3, s.Data}}
		if at, there := to[s.Port]; there && len(n.way) < 100 {
			n.way = append(n.way, at)
		}
	}
}

// come: some of the frames that are on their way, the first ones first.
func (n *lab) come() {
	for range min(len(n.way), n.next(60)) {
		f := n.way[0]
		n.way = n.way[1:]
		n.send(f.bridge, n.nodes[f.bridge].do(func(b *bridge.Bridge) ([]bridge.Sent, api.Errno) { return b.Frame(f.port, f.data) }))
	}
}

// laid: a VLAN and an entry are laid, and others are gone.
func (n *lab) laid() act {
	v := vlan.Vlan{Vid: uint16(1 + n.next(4)), Members: ports.Set(n.next(32))}
	e := static.Entry{Key: key(uint16(1+n.next(4)), uint64(2+4*n.next(5))), Ports: ports.Set(n.next(32))}
	return func(b *bridge.Bridge) ([]bridge.Sent, api.Errno) {
		b.SetVlan(v)
		b.SetStatic(e)
		b.DropStatic(key(v.Vid, 6))
		return nil, b.DropVlan(e.Vid + 2)
	}
}

// seen: a station's frame, at times one that was cut.
func (n *lab) seen() act {
	s, _ := frame.Encode(frame.Frame{Src: addr.FromInt(uint64(2 + 4*n.next(5))), Dst: addr.FromInt(uint64(2 + 4*n.next(5))), Type: 0x800})
	s = s[:len(s)-n.next(9)/8]
	return func(b *bridge.Bridge) ([]bridge.Sent, api.Errno) { return b.Frame(5, s) }
}

// event at a bridge.
func (n *lab) event() {
	i := n.next(3)
	switch n.next(10) {
	case 0:
		port, up, admin := 1+n.next(5), n.next(4) > 0, n.next(6) > 0
		n.send(i, n.nodes[i].do(func(b *bridge.Bridge) ([]bridge.Sent, api.Errno) { return b.Switch(port, up, admin) }))
	case 1:
		n.nodes[i].do(n.laid())
	case 2, 3, 4:
		n.send(i, n.nodes[i].do(n.seen()))
	default:
		for i, x := range n.nodes {
			n.send(i, x.do(func(b *bridge.Bridge) ([]bridge.Sent, api.Errno) { return b.Tick(), api.OK }))
		}
	}
	n.come()
}

// upgrade a bridge.
func (n *lab) upgrade(i int, version uint8) {
	n.send(i, n.nodes[i].upgrade(version))
}

// same: labs are alike, bridge by bridge, and so is all that is on its way.
func same(t *testing.T, what string, n, o *lab) {
	t.Helper()
	for i, x := range n.nodes {
		if got, want := x.state(), o.nodes[i].state(); !record.Same(got, want) {
			t.Fatalf("%s: bridge %d is\n%+v\nwant\n%+v", what, i, got, want)
		}
	}
	if len(n.way) != len(o.way) {
		t.Fatalf("%s: %d on their way, want %d", what, len(n.way), len(o.way))
	}
	for i, f := range n.way {
		if f != o.way[i] {
			t.Fatalf("%s: on its way is %+v, want %+v", what, f, o.way[i])
		}
	}
}

// P25.3: upgrades of version 3 at each event, of each machine, can't be told from none.
func TestUnseen(t *testing.T) {
	for seed := range 60 {
		n, o := newLab(t, seed, true), newLab(t, seed, false)
		same(t, "new", n, o)
		for range 80 {
			for i := range n.nodes {
				n.upgrade(i, 3)
			}
			same(t, "upgraded", n, o)
			n.event()
			o.event()
			same(t, "behind an event", n, o)
		}
	}
}

// P25.3: in another version it goes on as one that has what is left, and was started; where it was refused, as one that just booted.
func TestUpgraded(t *testing.T) {
	learnt, laid := [4]int{}, [4]int{}
	for seed := range 400 {
		n, o := newLab(t, seed, true), newLab(t, seed, false)
		for range 60 {
			n.event()
			o.event()
			same(t, "behind an event", n, o)
			if i, version := n.next(9), uint8(n.next(4)); i < len(n.nodes) {
				n.upgrade(i, version)
				o.upgrade(i, version)
				same(t, "upgraded", n, o)
				learnt[version] += len(n.nodes[i].state().Fdb)
				laid[version] += len(n.nodes[i].state().Static)
			}
			o.draw = n.draw
		}
	}
	if learnt[0]+learnt[1] > 0 || learnt[2] < 100 || learnt[3] < 100 || laid[0]+laid[1] > 0 || laid[2] < 100 || laid[3] < 100 {
		t.Errorf("by versions %v entries learnt, %v laid", learnt, laid)
	}
}

// P25.3: who has the bridge from Do can't tell an upgrade of version 3 either; it is the machine's bridge on both sides of it.
func TestUnseenByHolder(t *testing.T) {
	m := worked(t)
	var held *bridge.Bridge
	does(t, m, func(b *bridge.Bridge) { held = b })
	freezes(t, m, api.OK)
	b, _ := m.Export(3)
	imports(t, "upgraded", m, b, api.OK)
	resumes(t, "upgraded", m, nil)
	does(t, m, func(b *bridge.Bridge) { b.Tick() })
	is(t, "ticked", m, held.State())
	held.Tick()
	is(t, "ticked by its holder", m, held.State())
}
