package valid_test

import (
	"testing"

	"girder/addr"
	"girder/api"
	"girder/bpdu"
	"girder/bridge"
	"girder/classify"
	"girder/fdb"
	"girder/frame"
	"girder/ports"
	"girder/record"
	"girder/static"
	"girder/valid"
	"girder/vlan"
)

// draw of numbers that come one behind the other, none by chance.
type draw uint64

// next number below a bound.
func (d *draw) next(bound int) int {
	*d = *d*6364136223846793005 + 1442695040888963407
	return int(uint64(*d>>33) % uint64(bound))
}

// yes, as often as once in so many.
func (d *draw) yes(once int) bool {
	return d.next(once) == 0
}

// set of the first ports.
func (d *draw) set() ports.Set {
	return ports.Set(d.next(64))
}

// address of few: of stations, a Group, and one that is Reserved.
func (d *draw) address() addr.MAC {
	return addr.FromInt([...]uint64{2, 3, 4, 5, 6, 7, 1 << 40, 0x0180C2000003}[d.next(8)])
}

// settings of a port, that may be.
func (d *draw) settings() record.Port {
	p := record.Port{Cost: uint32(1 + d.next(3)), Priority: d.next(3), Edge: d.yes(4), Admin: !d.yes(6), Up: !d.yes(8)}
	if d.yes(6) {
		p.Cost, p.Priority = api.MaxCost, 15
	}
	p.Port = classify.Port{Pvid: uint16(1 + d.next(2)), Accept: max(0, d.next(8)-5), Filter: d.yes(3)}
	return p
}

// booted state of up to six ports, or of sixteen.
func (d *draw) booted() record.State {
	s := record.State{Config: record.Config{ID: addr.ID(4 + d.next(3)), MaxAge: 6 + d.next(3), Hello: 1 + d.next(3), Delay: 1 + d.next(3), Room: 1 + d.next(5), Live: 1 + d.next(9)}}
	n := d.next(7)
	if d.yes(10) {
		n = api.MaxPorts
	}
	for range n {
		s.Ports = append(s.Ports, d.settings())
	}
	s.Vlans = []vlan.Vlan{{Vid: 1, Members: 0xFFFF, Untagged: d.set()}, {Vid: 2, Members: d.set()}}
	return s
}

// pdu in a frame's bytes: of few vectors, so that many are alike.
func (d *draw) pdu(l []record.Port) string {
	p := bpdu.PDU{Kind: bpdu.Rapid, Role: uint8(d.next(4)), Topology: d.yes(4), Proposal: d.yes(2), Agreement: d.yes(2), Age: uint16(d.next(10))}
	p.Root, p.Cost, p.Bridge, p.Port = addr.ID(3+d.next(4)), uint32(d.next(4)), addr.ID(3+d.next(5)), uint16(d.next(3))
	if len(l) > 0 && d.yes(2) { // what some port holds
		v := l[d.next(len(l))].Vector
		p.Root, p.Cost, p.Bridge, p.Port = v.Root, v.Cost, v.Bridge, v.Port
	}
	switch d.next(8) {
	case 0:
		p = bpdu.PDU{Kind: bpdu.Change}
	case 1:
		p.Kind, p.Role, p.Proposal, p.Agreement = bpdu.Config, 0, false, false
	case 2:
		p.Age, p.Cost = uint16(d.next(1<<16)), 1<<32-1
	}
	f, _ := bpdu.Wrap(addr.FromInt(6), p)
	s, _ := frame.Encode(f)
	return s
}

// station's frame in bytes.
func (d *draw) station() string {
	f := frame.Frame{Src: d.address(), Dst: d.address(), Type: 0x800}
	if d.yes(3) {
		f.Tagged, f.Vid = true, uint16(d.next(4))
	}
	s, _ := frame.Encode(f)
	return s[:len(s)-d.next(20)/19]
}

// event at a bridge, of any kind that there is.
func (d *draw) event(b *bridge.Bridge) {
	l := b.State().Ports
	port := d.next(len(l)+2) - d.next(2)
	switch d.next(16) {
	case 0, 1, 2:
		b.Frame(port, d.station())
	case 3, 4, 5, 6, 7:
		b.Frame(port, d.pdu(l))
	case 8, 9, 10:
		b.Tick()
	case 11:
		b.Switch(port, !d.yes(4), !d.yes(6))
	case 12:
		v := vlan.Vlan{Vid: uint16(d.next(30)), Members: d.set()}
		v.Untagged = v.Members & d.set()
		b.SetVlan(v)
		b.DropVlan(uint16(d.next(20)))
	case 13:
		b.SetStatic(static.Entry{Key: fdb.Key{Vid: uint16(d.next(9)), Mac: d.address()}, Ports: d.set()})
		b.DropStatic(fdb.Key{Vid: uint16(d.next(9)), Mac: d.address()})
	case 14:
		p := d.settings()
		if d.yes(4) {
			p.Cost, p.Accept, p.Priority = uint32(d.next(2)), d.next(5)-1, d.next(20)-2
		}
		b.SetPort(port, p)
	case 15:
		if d.yes(4) {
			b.Start()
		}
	}
}

// anyOn: does some port take part?
func anyOn(s record.State) bool {
	for _, p := range s.Ports {
		if p.Up && p.Admin {
			return true
		}
	}
	return false
}

// ok: nothing is wrong in a state, and it is begun just if some port is on.
func ok(t *testing.T, what string, s record.State) {
	t.Helper()
	if err := valid.Check(s); err != api.OK || valid.Begun(s) != anyOn(s) {
		t.Fatalf("%s: Check tells %d, Begun %v of %+v", what, err, valid.Begun(s), s)
	}
}

// P22.2: a bridge of a state in which nothing is wrong has such states alone, from Start on, whatever comes.
func TestCourses(t *testing.T) {
	var d draw
	met := map[[2]int]int{}
	for range 2000 {
		s := d.booted()
		if err := valid.Check(s); err != api.OK || valid.Begun(s) {
			t.Fatalf("%+v: Check tells %d", s, err)
		}
		b := bridge.Load(s)
		b.Start()
		ok(t, "started", b.State())
		for range 100 {
			d.event(b)
			s := b.State()
			ok(t, "behind an event", s)
			for _, p := range s.Ports {
				met[[2]int{p.Role, p.State}]++
			}
		}
		again := bridge.Load(b.State())
		again.Tick()
		ok(t, "loaded anew", again.State())
		again.Start()
		ok(t, "started anew", again.State())
		cold := bridge.Load(b.State().Cold())
		if err := valid.Check(cold.State()); err != api.OK || valid.Begun(cold.State()) {
			t.Fatalf("cold: Check tells %d of %+v", err, cold.State())
		}
	}
	for _, role := range []int{record.Disabled, record.Alternate, record.Backup} {
		if met[[2]int{role, record.Discarding}] < 1000 {
			t.Errorf("ports of the role %d, as they were met: %v", role, met)
		}
	}
	for state := range 3 {
		if met[[2]int{record.Designated, state}] < 1000 || met[[2]int{record.Root, record.Forwarding}] < 1000 {
			t.Errorf("ports of the state %d, as they were met: %v", state, met)
		}
	}
}

// P22.2: what of a begun state is turned otherwise than a bridge does it, is told.
func TestCoursesSpoilt(t *testing.T) {
	d := draw(5)
	for range 300 {
		b := bridge.Load(d.booted())
		b.Start()
		for range 30 {
			d.event(b)
		}
		s := b.State()
		for i := range s.Ports {
			for what, spoil := range map[string]func(p *record.Port){
				"Life":  func(p *record.Port) { p.Life += 31 },
				"Age":   func(p *record.Port) { p.Age -= 41 },
				"Wait":  func(p *record.Port) { p.Wait -= 31 },
				"Info":  func(p *record.Port) { p.Info = (p.Info + 1) % 3 },
				"Role":  func(p *record.Port) { p.Role = (p.Role + 1) % 5 },
				"State": func(p *record.Port) { p.State -= 3 },
			} {
				x := s.Clone()
				spoil(&x.Ports[i])
				if valid.Check(x) == api.OK {
					t.Fatalf("%s of the port %d: nothing is wrong in %+v", what, i+1, x)
				}
			}
		}
	}
}
