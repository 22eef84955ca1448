package tree_test

import (
	"math"
	"slices"
	"testing"

	"girder/addr"
	"girder/bpdu"
	"girder/count"
	"girder/fdb"
	"girder/ports"
	"girder/record"
	"girder/static"
	"girder/tree"
	"girder/vector"
	"girder/vlan"
)

// of numbers: a vector.
func of(root addr.ID, cost uint32, bridge addr.ID, port uint16) vector.Vector {
	return vector.Vector{Root: root, Cost: cost, Bridge: bridge, Port: port}
}

// config of the bridge 9.
func config() record.Config {
	return record.Config{ID: 9, MaxAge: 6, Hello: 2, Delay: 3, Room: 64, Live: 300}
}

// bridge of so many ports, all up, before it begins; nothing else of it is empty.
func bridge(n int) record.State {
	s := record.State{Config: config(), Vlans: []vlan.Vlan{{Vid: 1, Members: ports.Of(1, 2)}}, Beat: 77, Counts: count.Counts{5, 6}}
	s.Static = []static.Entry{{Key: fdb.Key{Vid: 1, Mac: addr.FromInt(6)}, Ports: ports.Of(1)}}
	s.Fdb = []fdb.Entry{{Key: fdb.Key{Vid: 1, Mac: addr.FromInt(8)}, Port: 2, Age: 4}}
	for range n {
		s.Ports = append(s.Ports, record.Port{Cost: 10, Admin: true, Up: true})
	}
	return s
}

// begun bridge of so many ports.
func begun(n int) record.State {
	s, _ := tree.Start(bridge(n))
	return s
}

// open bridge: the root 1 is behind its port 1, others agreed at all other ports.
func open(n int) record.State {
	s, _ := tree.Hear(begun(n), 1, designated(of(1, 5, 4, 3), 2))
	for i := 2; i <= n; i++ {
		s, _ = tree.Hear(s, i, agreement(s.Ports[i-1].Vector))
	}
	for i := range s.Ports {
		s.Ports[i].Change = 0
	}
	return s
}

// tells: a PDU with a vector.
func tells(p bpdu.PDU, v vector.Vector) bpdu.PDU {
	p.Root, p.Cost, p.Bridge, p.Port = v.Root, v.Cost, v.Bridge, v.Port
	return p
}

// designated bridges tell a vector of an age.
func designated(v vector.Vector, age uint16) bpdu.PDU {
	return tells(bpdu.PDU{Kind: bpdu.Rapid, Role: bpdu.Designated, Age: age}, v)
}

// proposal of a vector.
func proposal(v vector.Vector) bpdu.PDU {
	p := designated(v, 1)
	p.Proposal = true
	return p
}

// agreement to a vector.
func agreement(v vector.Vector) bpdu.PDU {
	return tells(bpdu.PDU{Kind: bpdu.Rapid, Role: bpdu.Root, Agreement: true}, v)
}

// closed: what a designated port that discards tells, with the config's times.
func closed(v vector.Vector, age uint16) bpdu.PDU {
	return tells(bpdu.PDU{Kind: bpdu.Rapid, Role: bpdu.Designated, Proposal: true, Age: age, MaxAge: 6, Hello: 2, Delay: 3}, v)
}

// forwards: likewise one that forwards.
func forwards(v vector.Vector, age uint16) bpdu.PDU {
	p := closed(v, age)
	p.Proposal, p.Learning, p.Forwarding = false, true, true
	return p
}

// at a port.
func at(port int, p bpdu.PDU) tree.Told {
	return tree.Told{Port: port, PDU: p}
}

// sameOut: nil and empty lists are the same.
func sameOut(a, b tree.Out) bool {
	return slices.Equal(a.Told, b.Told) && slices.Equal(a.Flush, b.Flush)
}

// sent is what should be.
func sent(t *testing.T, o tree.Out, flush []int, told ...tree.Told) {
	t.Helper()
	if want := (tree.Out{Told: told, Flush: flush}); !sameOut(o, want) {
		t.Errorf("sent\n%+v\nwant\n%+v", o, want)
	}
}

// stays: nothing is otherwise, and nothing is sent.
func stays(t *testing.T, what string, s record.State, act func(s record.State) (record.State, tree.Out)) {
	t.Helper()
	was := s.Clone()
	got, o := act(s)
	if !record.Same(got, was) || !record.Same(s, was) || len(o.Told)+len(o.Flush) > 0 {
		t.Errorf("%s: %+v\nis %+v, %+v", what, was, got, o)
	}
}

// looks of a port: its role, its state and its ticks of a change.
func looks(t *testing.T, s record.State, port, role, state, change int) {
	t.Helper()
	if p := s.Ports[port-1]; p.Role != role || p.State != state || p.Change != change {
		t.Errorf("port %d is %d, %d, %d, want %d, %d, %d", port, p.Role, p.State, p.Change, role, state, change)
	}
}

// P18.1, the example: each port that is on tells the bridge as the root.
func TestStart(t *testing.T) {
	s := bridge(5)
	s.Ports[1].Up, s.Ports[2].Admin, s.Ports[4].Edge = false, false, true
	s.Ports[3].Priority = 8
	was := s.Clone()
	got, o := tree.Start(s)
	sent(t, o, nil, at(1, closed(of(9, 0, 9, 1), 0)), at(4, closed(of(9, 0, 9, 0x8004), 0)), at(5, forwards(of(9, 0, 9, 5), 0)))
	want := was.Clone()
	want.Beat = 0
	for i, p := range want.Ports {
		if p.On() {
			p.Plain, p.Role, p.Info, p.Vector, p.Wait = true, record.Designated, record.Mine, of(9, 0, 9, p.ID(i+1)), 3
		}
		want.Ports[i] = p
	}
	want.Ports[4].State, want.Ports[4].Wait = record.Forwarding, 0
	if !record.Same(got, want) || !record.Same(s, was) {
		t.Errorf("Start of %+v\ntells %+v\nwant  %+v", was, got, want)
	}
}

// P18.1: a start forgets whatever a bridge was, but for its settings and what isn't its ports'; nothing is flushed.
func TestStartAnew(t *testing.T) {
	for n := range 5 {
		s := open(n)
		s.Beat = 2
		fresh := bridge(n)
		want, said := tree.Start(fresh)
		got, o := tree.Start(s)
		if !record.Same(got, want) || !sameOut(o, said) || len(o.Told) != n || len(o.Flush) > 0 {
			t.Errorf("Start of %+v\ntells %+v, %+v\nwant  %+v, %+v", s, got, o, want, said)
		}
	}
	for _, beat := range []int{0, 1, -1, 1 << 40, -1 << 40} {
		s := bridge(1)
		s.Beat = beat
		if s, _ = tree.Start(s); s.Beat != 0 {
			t.Errorf("Beat was %d and is %d", beat, s.Beat)
		}
	}
	s := record.State{Ports: []record.Port{{Role: record.Root, State: record.Forwarding, Change: 4, Info: record.Heard}}}
	if s, _ = tree.Start(s); s.Ports[0] != (record.Port{}) {
		t.Errorf("a port that isn't up starts as %+v", s.Ports[0])
	}
}

// P18.1: a bit for each port that is on, and in that state or further.
func TestOpen(t *testing.T) {
	var s record.State
	for n := range 12 {
		s.Ports = append(s.Ports, record.Port{Up: n&1 > 0, Admin: n&2 > 0, State: n / 4})
	}
	for state, want := range map[int]uint32{
		record.Discarding: 0x888, record.Learning: 0x880, record.Forwarding: 0x800,
		-1: 0x888, 3: 0, math.MinInt: 0x888, math.MaxInt: 0, 1 << 32: 0,
	} {
		if got := tree.Open(s, state); got != want {
			t.Errorf("Open of %d = %x, want %x", state, got, want)
		}
	}
	if got := tree.Open(record.State{}, 0); got != 0 {
		t.Errorf("Open of nothing = %x", got)
	}
	var all record.State
	for n := 1; n <= 40; n++ {
		all.Ports = append(all.Ports, record.Port{Up: true, Admin: true, State: record.Forwarding})
		if got, want := tree.Open(all, record.Forwarding), uint32(1<<min(n, 32)-1); got != want {
			t.Errorf("Open of %d = %x, want %x", n, got, want)
		}
	}
}

// numberless: numbers that no port of a bridge of two has.
func numberless() []int {
	return []int{0, -1, 3, 4, 1<<32 + 1, math.MinInt, math.MaxInt}
}

// P18.1, P18.2: where there is no such port nothing is otherwise; what is answered is new memory all the same.
func TestNoPort(t *testing.T) {
	for _, n := range numberless() {
		for _, up := range []bool{false, true} {
			stays(t, "Switch", open(2), func(s record.State) (record.State, tree.Out) { return tree.Switch(s, n, up, true) })
			stays(t, "Switch", bridge(2), func(s record.State) (record.State, tree.Out) { return tree.Switch(s, n, true, up) })
		}
		for _, p := range []bpdu.PDU{proposal(of(0, 0, 0, 0)), {Kind: bpdu.Change}, agreement(open(2).Ports[1].Vector), {}} {
			stays(t, "Hear", open(2), func(s record.State) (record.State, tree.Out) { return tree.Hear(s, n, p) })
		}
	}
	stays(t, "no ports", record.State{}, func(s record.State) (record.State, tree.Out) { return tree.Switch(s, 1, true, true) })
	stays(t, "no ports", record.State{}, func(s record.State) (record.State, tree.Out) { return tree.Hear(s, 1, bpdu.PDU{}) })
}

// P18.2: at a port that isn't on nothing is heard.
func TestHearOff(t *testing.T) {
	for _, on := range [][2]bool{{false, false}, {false, true}, {true, false}} {
		for _, p := range []bpdu.PDU{proposal(of(0, 0, 0, 0)), {Kind: bpdu.Change}, agreement(open(2).Ports[1].Vector), designated(of(8, 9, 9, 9), 1)} {
			s := open(2)
			s.Ports[1].Up, s.Ports[1].Admin, s.Ports[1].Plain = on[0], on[1], true
			stays(t, "Hear", s, func(s record.State) (record.State, tree.Out) { return tree.Hear(s, 2, p) })
		}
	}
}

// P18.1: a port that goes off is flushed first of all; the others are chosen anew.
func TestSwitchOff(t *testing.T) {
	for _, to := range [][2]bool{{false, false}, {false, true}, {true, false}} {
		s, o := tree.Switch(open(3), 1, to[0], to[1])
		sent(t, o, []int{1}, at(2, forwards(of(9, 0, 9, 2), 0)), at(3, forwards(of(9, 0, 9, 3), 0)))
		if s.Ports[0] != (record.Port{Cost: 10, Up: to[0], Admin: to[1]}) {
			t.Errorf("off: %+v", s.Ports[0])
		}
		looks(t, s, 2, record.Designated, record.Forwarding, 0)
		s, o = tree.Switch(open(3), 3, to[0], to[1])
		sent(t, o, []int{3})
		looks(t, s, 1, record.Root, record.Forwarding, 0)
		looks(t, s, 2, record.Designated, record.Forwarding, 0)
		looks(t, s, 3, record.Disabled, record.Discarding, 0)
	}
}

// P18.1: where another port gets the root port by that, the topology changed at it, behind the flush of the one that went.
func TestSwitchToAnother(t *testing.T) {
	s, _ := tree.Hear(open(4), 3, designated(of(1, 5, 8, 1), 4)) // an alternate way
	looks(t, s, 3, record.Alternate, record.Discarding, 0)
	s, o := tree.Switch(s, 1, false, true)
	sent(t, o, []int{1, 2, 4})
	looks(t, s, 3, record.Root, record.Forwarding, 4)
	looks(t, s, 2, record.Designated, record.Forwarding, 4)
	looks(t, s, 4, record.Designated, record.Forwarding, 4)
}

// P18.1: a port that comes on is designated; one that was off, or stays on, isn't flushed.
func TestSwitchOn(t *testing.T) {
	off, _ := tree.Switch(open(2), 2, false, true)
	s, o := tree.Switch(off, 2, true, true)
	sent(t, o, nil, at(2, closed(of(1, 15, 9, 2), 3)))
	if p := s.Ports[1]; !p.Plain || p.Wait != 3 || p.State != record.Discarding {
		t.Errorf("on: %+v", p)
	}
	stays(t, "stays on", open(2), func(s record.State) (record.State, tree.Out) { return tree.Switch(s, 2, true, true) })
	stays(t, "stays off", off, func(s record.State) (record.State, tree.Out) { return tree.Switch(s, 2, false, true) })
	_, o = tree.Switch(off, 2, false, false)
	sent(t, o, nil)
}

// P18.1: all ports are chosen by that, also where the one that is switched is as it was: a port's settings may be others.
func TestSwitchChooses(t *testing.T) {
	s := open(3)
	s.Ports[0].Cost, s.Ports[1].Priority = 11, 2
	s, o := tree.Switch(s, 3, true, true)
	sent(t, o, nil, at(2, forwards(of(1, 16, 9, 0x2002), 3)), at(3, forwards(of(1, 16, 9, 3), 3)))
	if s.Ports[1].Vector != of(1, 16, 9, 0x2002) || s.Ports[2].Agreed {
		t.Errorf("chosen: %+v", s.Ports)
	}
}

// P18.2: whatever comes, the port isn't plain any more, and so not at the edge.
func TestHearPlain(t *testing.T) {
	for _, p := range []bpdu.PDU{
		{}, {Kind: bpdu.Change}, {Kind: 7}, {Kind: bpdu.Rapid}, {Kind: bpdu.Rapid, Role: bpdu.Root}, {Kind: bpdu.Config},
		designated(of(1, 0, 1, 1), 6), designated(of(99, 0, 1, 1), 1), proposal(of(1, 0, 1, 1)),
	} {
		s := begun(2)
		s.Ports[0].Edge, s.Ports[1].Edge = true, true
		s, _ = tree.Hear(s, 1, p)
		if s.Ports[0].Plain || !s.Ports[1].Plain {
			t.Errorf("%+v: %+v", p, s.Ports)
		}
	}
}

// P18.2: what is too old leaves all else as it was.
func TestHearOld(t *testing.T) {
	for _, age := range []uint16{6, 7, 40, 65535} {
		p := proposal(of(0, 0, 0, 0))
		p.Age = age
		stays(t, "old", open(2), func(s record.State) (record.State, tree.Out) { return tree.Hear(s, 2, p) })
	}
	p := designated(of(0, 0, 0, 0), 5)
	if s, _ := tree.Hear(open(2), 2, p); s.Ports[1].Role != record.Root || s.Ports[1].Age != 5 {
		t.Errorf("young: %+v", s.Ports[1])
	}
}

// spread: an open bridge of seven ports, of which 4 is at the edge, 5 alternate, 6 off, 7 at no edge any more.
func spread() record.State {
	s := open(7)
	s.Ports[3].Edge, s.Ports[3].Plain = true, true
	s.Ports[6].Edge = true
	s, _ = tree.Hear(s, 5, designated(of(1, 5, 8, 1), 4))
	s, _ = tree.Switch(s, 6, false, true)
	return s
}

// P18.2: a change that is heard goes on at each other port that is on, Root or Designated, and not at the edge.
func TestHearChange(t *testing.T) {
	for port, flush := range map[int][]int{1: {2, 3, 7}, 2: {1, 3, 7}, 4: {1, 2, 3, 7}, 5: {1, 2, 3, 7}, 7: {1, 2, 3}} {
		topology := designated(of(99, 9, 9, 9), 99)
		topology.Topology = true
		odd := bpdu.PDU{Kind: bpdu.Change, Agreement: true, Role: bpdu.Root}
		odd = tells(odd, spread().Ports[port-1].Vector)
		for _, p := range []bpdu.PDU{{Kind: bpdu.Change}, topology, odd, {Kind: bpdu.Change, Proposal: true}, {Kind: bpdu.Change, Topology: true}} {
			s, o := tree.Hear(spread(), port, p)
			sent(t, o, flush)
			want := spread()
			want.Ports[port-1].Plain = false
			for _, n := range flush {
				want.Ports[n-1].Change = 4
			}
			if !record.Same(s, want) {
				t.Errorf("%+v at %d\ntells %+v\nwant  %+v", p, port, s, want)
			}
		}
	}
}

// P18.2: with Topology, what else a PDU says is heard behind that.
func TestHearTopology(t *testing.T) {
	p := designated(of(1, 4, 4, 3), 1)
	p.Topology = true
	_, o := tree.Hear(open(3), 1, p)
	second, third := forwards(of(1, 14, 9, 2), 2), forwards(of(1, 14, 9, 3), 2)
	second.Topology, third.Topology = true, true
	sent(t, o, []int{2, 3}, at(2, second), at(3, third))
	p = agreement(begun(2).Ports[0].Vector)
	p.Topology = true
	s, o := tree.Hear(begun(2), 1, p)
	sent(t, o, []int{2, 2})
	looks(t, s, 1, record.Designated, record.Forwarding, 4)
}

// P18.2: one of no port's other end that agrees to just the port's vector lets it forward.
func TestHearAgreement(t *testing.T) {
	for _, role := range []uint8{bpdu.Root, bpdu.Other} {
		s := begun(3)
		s.Ports[2].Edge = true
		p := agreement(of(9, 0, 9, 2))
		p.Role = role
		s, o := tree.Hear(s, 2, p)
		sent(t, o, []int{1})
		looks(t, s, 2, record.Designated, record.Forwarding, 4)
		looks(t, s, 1, record.Designated, record.Discarding, 4)
		looks(t, s, 3, record.Designated, record.Discarding, 0)
		if !s.Ports[1].Agreed || s.Ports[1].Wait != 0 {
			t.Errorf("agreed: %+v", s.Ports[1])
		}
		s.Ports[1].Change = 0
		s, o = tree.Hear(s, 2, p) // it forwards already
		sent(t, o, nil)
		looks(t, s, 2, record.Designated, record.Forwarding, 0)
	}
}

// P18.2: an agreement at a port that is alternate goes round to other ones' Flush, an alternate one's too.
func TestFlushOfAlternate(t *testing.T) {
	s, _ := tree.Hear(open(4), 3, designated(of(1, 5, 8, 1), 4))
	s.Ports[1].State, s.Ports[1].Agreed = record.Discarding, false
	s, o := tree.Hear(s, 2, agreement(s.Ports[1].Vector))
	sent(t, o, []int{1, 3, 4})
	looks(t, s, 3, record.Alternate, record.Discarding, 0)
	looks(t, s, 1, record.Root, record.Forwarding, 4)
}

// P18.2: others that speak so are done with, whatever they tell.
func TestHearNoAgreement(t *testing.T) {
	good := agreement(of(9, 0, 9, 2))
	var l []bpdu.PDU
	for _, v := range []vector.Vector{of(8, 0, 9, 2), of(9, 1, 9, 2), of(9, 0, 8, 2), of(9, 0, 9, 1), of(10, 0, 9, 2), of(9, 0, 10, 2), of(9, 0, 9, 3), {}} {
		l = append(l, tells(good, v))
	}
	silent := good
	silent.Agreement = false
	better := tells(silent, of(1, 1, 1, 1))
	better.Proposal = true
	for _, p := range append(l, silent, better) {
		for _, role := range []uint8{bpdu.Root, bpdu.Other} {
			p.Role = role
			s := begun(3)
			s.Ports[1].Plain = false
			stays(t, "no agreement", s, func(s record.State) (record.State, tree.Out) { return tree.Hear(s, 2, p) })
		}
	}
	s := open(3) // a root port, and an alternate one, hear their own vectors
	stays(t, "the root port", s, func(s record.State) (record.State, tree.Out) { return tree.Hear(s, 1, agreement(s.Ports[0].Vector)) })
	s, _ = tree.Hear(s, 3, designated(of(1, 5, 8, 1), 4))
	stays(t, "alternate", s, func(s record.State) (record.State, tree.Out) { return tree.Hear(s, 3, agreement(s.Ports[2].Vector)) })
}

// P18.2: Rapid ones of other roles, and those of other kinds, are no agreements, but tell a vector.
func TestHearOtherKinds(t *testing.T) {
	for _, kind := range []uint8{bpdu.Config, bpdu.Rapid, 1, 7, 255} {
		for role := range 8 {
			if kind == bpdu.Rapid && (role == bpdu.Root || role == bpdu.Other) {
				continue
			}
			p := agreement(of(9, 0, 9, 2)) // not better than the port's own: it tells
			p.Kind, p.Role = kind, uint8(role)
			s, o := tree.Hear(begun(3), 2, p)
			sent(t, o, nil, at(2, closed(of(9, 0, 9, 2), 0)))
			looks(t, s, 2, record.Designated, record.Discarding, 0)
			s, _ = tree.Hear(begun(3), 2, tells(p, of(1, 2, 3, 4)))
			looks(t, s, 2, record.Root, record.Forwarding, 4)
		}
	}
}

// P18.2: a worse vector is answered by a designated port alone.
func TestHearWorse(t *testing.T) {
	s := open(4)
	s, o := tree.Hear(s, 2, designated(of(2, 0, 7, 7), 0))
	sent(t, o, nil, at(2, forwards(of(1, 15, 9, 2), 3)))
	if !record.Same(s, open(4)) {
		t.Errorf("worse: %+v", s)
	}
	s.Ports[1].State, s.Ports[1].Change = record.Learning, 1
	_, o = tree.Hear(s, 2, proposal(of(2, 0, 7, 7)))
	p := forwards(of(1, 15, 9, 2), 3)
	p.Proposal, p.Forwarding, p.Topology = true, false, true
	sent(t, o, nil, at(2, p))
	s, _ = tree.Hear(open(4), 3, designated(of(1, 5, 8, 1), 4))
	for _, port := range []int{1, 3} { // the root port and an alternate one
		stays(t, "worse", s, func(s record.State) (record.State, tree.Out) { return tree.Hear(s, port, proposal(of(2, 0, 7, 7))) })
	}
}

// P18.2: a better vector is taken, the ports are chosen, the others tell it anew, with the age of the root port and one.
func TestHearTaken(t *testing.T) {
	s, o := tree.Hear(begun(3), 2, designated(of(1, 5, 4, 3), 4))
	first, third := closed(of(1, 15, 9, 1), 5), closed(of(1, 15, 9, 3), 5)
	first.Topology, third.Topology = true, true
	sent(t, o, []int{1, 3}, at(1, first), at(3, third))
	looks(t, s, 2, record.Root, record.Forwarding, 4)
	looks(t, s, 1, record.Designated, record.Discarding, 4)
	if p := s.Ports[1]; p.Info != record.Heard || p.Vector != of(1, 5, 4, 3) || p.Age != 4 || p.Life != 6 || p.Wait != 0 {
		t.Errorf("taken: %+v", p)
	}
	s.Ports[1].Life, s.Ports[1].Change = 1, 0
	s, o = tree.Hear(s, 2, designated(of(1, 5, 4, 3), 2)) // the same: nothing is told anew
	sent(t, o, nil)
	if p := s.Ports[1]; p.Life != 6 || p.Age != 2 || p.Change != 0 {
		t.Errorf("the same: %+v", p)
	}
}

// P18.2: the same vector, too, has the ports chosen, and is agreed to.
func TestHearSame(t *testing.T) {
	s := open(2)
	s.Ports[0].Cost = 20
	s, o := tree.Hear(s, 1, designated(of(1, 5, 4, 3), 2))
	sent(t, o, nil, at(2, forwards(of(1, 25, 9, 2), 3)))
	s, o = tree.Hear(s, 1, proposal(of(1, 5, 4, 3)))
	sent(t, o, nil, at(1, agreement(of(1, 5, 4, 3))))
	looks(t, s, 2, record.Designated, record.Discarding, 0) // nobody agreed to the new cost
	if s.Ports[1].Wait != 3 {
		t.Errorf("blocked: %+v", s.Ports[1])
	}
}

// P18.2: a proposal blocks each other port that nobody agreed at, and that isn't at the edge, and is agreed to.
func TestHearProposal(t *testing.T) {
	s := open(5)
	s.Ports[1].Agreed = false
	s.Ports[2].Agreed, s.Ports[2].Edge, s.Ports[2].Plain = false, true, true
	s.Ports[4].Agreed, s.Ports[4].State = false, record.Learning
	s.Ports[0].Change = 3
	p := proposal(of(1, 5, 4, 3))
	p.Topology = false
	s, o := tree.Hear(s, 1, p)
	sent(t, o, nil, at(1, agreement(of(1, 5, 4, 3))))
	looks(t, s, 1, record.Root, record.Forwarding, 3)
	looks(t, s, 2, record.Designated, record.Discarding, 0)
	looks(t, s, 3, record.Designated, record.Forwarding, 0)
	looks(t, s, 4, record.Designated, record.Forwarding, 0)
	looks(t, s, 5, record.Designated, record.Discarding, 0)
	if s.Ports[1].Wait != 3 || s.Ports[4].Wait != 3 {
		t.Errorf("blocked: %+v", s.Ports)
	}
}

// P18.2: a port that is alternate, or backup, agrees as Other; it blocks the others as well.
func TestHearProposalAtOthers(t *testing.T) {
	for _, v := range []vector.Vector{of(1, 5, 8, 1), of(1, 15, 9, 1)} {
		s := open(4)
		s.Ports[3].Agreed = false
		s, o := tree.Hear(s, 3, proposal(v))
		p := agreement(v)
		p.Role = bpdu.Other
		sent(t, o, nil, at(3, p))
		looks(t, s, 1, record.Root, record.Forwarding, 0)
		looks(t, s, 2, record.Designated, record.Forwarding, 0)
		looks(t, s, 4, record.Designated, record.Discarding, 0)
		if want := map[addr.ID]int{8: record.Alternate, 9: record.Backup}[v.Bridge]; s.Ports[2].Role != want {
			t.Errorf("role %d, want %d", s.Ports[2].Role, want)
		}
	}
}

// P18.2: where the port is designated all the same, nothing is agreed to, and nothing blocked.
func TestHearProposalAtDesignated(t *testing.T) {
	s, _ := tree.Hear(open(3), 3, designated(of(1, 5, 8, 1), 4))
	s.Ports[1].Agreed = false
	s, o := tree.Hear(s, 3, proposal(of(2, 5, 8, 1))) // from the same one, and worse now
	p := closed(of(1, 15, 9, 3), 3)
	sent(t, o, nil, at(3, p))
	looks(t, s, 3, record.Designated, record.Discarding, 0)
	looks(t, s, 2, record.Designated, record.Forwarding, 0)
}

// P18.2: what is told behind a choice goes ahead of what is agreed to.
func TestHearProposalTaken(t *testing.T) {
	s, o := tree.Hear(open(3), 1, proposal(of(1, 4, 4, 3)))
	sent(t, o, nil, at(2, forwards(of(1, 14, 9, 2), 2)), at(3, forwards(of(1, 14, 9, 3), 2)), at(1, agreement(of(1, 4, 4, 3))))
	looks(t, s, 2, record.Designated, record.Discarding, 0)
	looks(t, s, 3, record.Designated, record.Discarding, 0)
}

// P18.2: a proposal is that of any kind that isn't done with.
func TestHearProposalOfKinds(t *testing.T) {
	for kind := range 256 {
		p := proposal(of(1, 5, 4, 3))
		p.Kind, p.Ack, p.Agreement, p.Forwarding = uint8(kind), true, true, true
		_, o := tree.Hear(open(2), 1, p)
		if kind == bpdu.Change {
			sent(t, o, []int{2})
		} else {
			sent(t, o, nil, at(1, agreement(of(1, 5, 4, 3))))
		}
	}
}

// wraps: numbers of ticks, and what they are modulo 2^16.
func wraps() map[int]uint16 {
	return map[int]uint16{0: 0, 1: 1, 40: 40, 65535: 65535, 65536: 0, 65537: 1, -1: 65535, -65535: 1, 1 << 40: 0, 1<<40 - 1: 65535, -1<<40 + 5: 5}
}

// P18.1, To tell: the times are the config's, modulo 2^16, each its own.
func TestTellsTimes(t *testing.T) {
	for from, want := range wraps() {
		for which := range 3 {
			s := bridge(1)
			p := closed(of(9, 0, 9, 1), 0)
			switch which {
			case 0:
				s.MaxAge, p.MaxAge = from, want
			case 1:
				s.Hello, p.Hello = from, want
			case 2:
				s.Delay, p.Delay = from, want
			}
			_, o := tree.Start(s)
			sent(t, o, nil, at(1, p))
		}
	}
}

// P18.2, To tell: the age is that of the root port, and one, modulo 2^16; 0, where there is none.
func TestTellsAge(t *testing.T) {
	for from, want := range wraps() {
		s := open(3)
		s.Ports[0].Age = from
		_, o := tree.Hear(s, 2, designated(of(2, 0, 7, 7), 0))
		sent(t, o, nil, at(2, forwards(of(1, 15, 9, 2), want+1)))
		s = begun(3)
		for i := range s.Ports {
			s.Ports[i].Age = from
		}
		_, o = tree.Hear(s, 2, designated(of(10, 0, 7, 7), 0))
		sent(t, o, nil, at(2, closed(of(9, 0, 9, 2), 0)))
	}
}

// P18.3: what was heard fades, and with the last tick of it the port is chosen anew.
func TestTickFades(t *testing.T) {
	s := open(3)
	for n := 5; n > 0; n-- {
		if s, _ = tree.Tick(s); s.Ports[0].Life != n || s.Ports[0].Role != record.Root {
			t.Fatalf("life %d: %+v", n, s.Ports[0])
		}
	}
	s.Beat = 9
	s, o := tree.Tick(s)
	sent(t, o, nil, at(1, closed(of(9, 0, 9, 1), 0)), at(2, forwards(of(9, 0, 9, 2), 0)), at(3, forwards(of(9, 0, 9, 3), 0)))
	looks(t, s, 1, record.Designated, record.Discarding, 0)
	if p := s.Ports[0]; p.Info != record.Mine || p.Wait != 2 {
		t.Errorf("faded: %+v", p)
	}
}

// P18.3: where another port gets the root port by a tick, the topology changed at it.
func TestTickToAnother(t *testing.T) {
	s, _ := tree.Hear(open(4), 3, designated(of(1, 5, 8, 1), 4))
	s.Ports[0].Life, s.Beat = 1, 9
	s, o := tree.Tick(s)
	first := closed(of(1, 15, 9, 1), 5)
	first.Topology = true // it is one of the others, and designated by then
	sent(t, o, []int{1, 2, 4}, at(1, first))
	looks(t, s, 3, record.Root, record.Forwarding, 4)
	looks(t, s, 1, record.Designated, record.Discarding, 4)
	looks(t, s, 2, record.Designated, record.Forwarding, 4)
}

// P18.3: Change is one less, down to 0.
func TestTickChange(t *testing.T) {
	for was, want := range map[int]int{0: 0, 1: 0, 2: 1, 3: 2, 1 << 40: 1<<40 - 1, -1: -1, -7: -7, -1 << 40: -1 << 40} {
		for port := 1; port <= 3; port++ {
			s := open(3)
			s, _ = tree.Switch(s, 3, false, true) // also where a port isn't on
			s.Ports[port-1].Change = was
			if s, _ = tree.Tick(s); s.Ports[port-1].Change != want {
				t.Errorf("port %d: Change was %d and is %d", port, was, s.Ports[port-1].Change)
			}
		}
	}
}

// P18.3: ports go on to forward; the topology changed at all that do, behind all, and ahead of what is told.
func TestTickSteps(t *testing.T) {
	s := begun(4)
	s.Ports[3].Edge = true // it forwards by the first choice
	s, o := tree.Tick(s)
	if len(o.Told) != 4 || o.Told[3] != at(4, forwards(of(9, 0, 9, 4), 0)) || !o.Told[2].PDU.Proposal || len(o.Flush) > 0 {
		t.Errorf("first tick: %+v", o)
	}
	for n := 2; n <= 5; n++ {
		if s, o = tree.Tick(s); len(o.Flush) > 0 || s.Ports[0].State != n/3 {
			t.Errorf("tick %d: %+v, %+v", n, s.Ports[0], o)
		}
	}
	s.Beat = 1
	s, o = tree.Tick(s)
	var told []tree.Told
	for n := 1; n <= 4; n++ {
		p := forwards(of(9, 0, 9, uint16(n)), 0)
		p.Topology = n < 4
		told = append(told, at(n, p))
	}
	sent(t, o, []int{2, 3, 1, 3, 1, 2}, told...)
	for n := 1; n <= 3; n++ {
		looks(t, s, n, record.Designated, record.Forwarding, 4)
	}
	looks(t, s, 4, record.Designated, record.Forwarding, 0)
}

// P18.3: Beat is one less, and begins anew from Hello where it is 0 by that; all tell then alone.
func TestTickBeat(t *testing.T) {
	for was, want := range map[int]int{0: 2, 1: 2, -1: 2, -9: 2, -1 << 40: 2, 2: 1, 3: 2, 9: 8, 1 << 40: 1<<40 - 1} {
		s := open(3)
		s.Beat = was
		s, o := tree.Tick(s)
		if s.Beat != want {
			t.Errorf("Beat was %d and is %d", was, s.Beat)
		}
		if was > 1 {
			sent(t, o, nil)
			continue
		}
		sent(t, o, nil, at(2, forwards(of(1, 15, 9, 2), 3)), at(3, forwards(of(1, 15, 9, 3), 3)))
	}
	for _, hello := range []int{0, 1, 10, -1, 1 << 40, -1 << 40} {
		s := open(3)
		s.Hello, s.Beat = hello, 1
		if s, _ = tree.Tick(s); s.Beat != hello {
			t.Errorf("Hello %d: Beat is %d", hello, s.Beat)
		}
	}
}

// P18.3: a root port tells of a change, as long as it has one; ports of other roles tell nothing.
func TestTickRoot(t *testing.T) {
	for change, tell := range map[int]bool{0: false, 1: false, 2: true, 4: true, -3: false} {
		s, _ := tree.Hear(open(4), 3, designated(of(1, 5, 8, 1), 4))
		s, _ = tree.Switch(s, 4, false, true)
		s.Beat = 1
		for i := range s.Ports {
			s.Ports[i].Change = change
		}
		s, o := tree.Tick(s)
		second := forwards(of(1, 15, 9, 2), 3)
		second.Topology = tell
		told := []tree.Told{at(2, second)}
		if tell {
			first := tells(bpdu.PDU{Kind: bpdu.Rapid, Role: bpdu.Root, Topology: true}, of(1, 5, 4, 3))
			told = []tree.Told{at(1, first), at(2, second)}
		}
		sent(t, o, nil, told...)
	}
}

// P18.1 to P18.3: what isn't the ports', and Beat, stays as it was; answers are new memory, and share none of it.
func TestNewMemory(t *testing.T) {
	acts := map[string]func(s record.State) (record.State, tree.Out){
		"start":  tree.Start,
		"tick":   tree.Tick,
		"hear":   func(s record.State) (record.State, tree.Out) { return tree.Hear(s, 1, proposal(of(1, 4, 4, 3))) },
		"change": func(s record.State) (record.State, tree.Out) { return tree.Hear(s, 1, bpdu.PDU{Kind: bpdu.Change}) },
		"nobody": func(s record.State) (record.State, tree.Out) { return tree.Hear(s, 9, bpdu.PDU{}) },
		"off":    func(s record.State) (record.State, tree.Out) { return tree.Switch(s, 1, false, true) },
		"none":   func(s record.State) (record.State, tree.Out) { return tree.Switch(s, 9, false, true) },
	}
	for what, act := range acts {
		s := open(3)
		s.Ports = append(s.Ports, record.Port{Cost: 55})[:3]
		was := s.Clone()
		got, o := act(s)
		again := got.Clone()
		clear(got.Ports[:cap(got.Ports)])
		clear(got.Vlans)
		clear(got.Static)
		clear(got.Fdb)
		clear(o.Told[:cap(o.Told)])
		clear(o.Flush[:cap(o.Flush)])
		if !record.Same(s, was) || s.Ports[:4][3] != (record.Port{Cost: 55}) {
			t.Errorf("%s: %+v was changed to %+v", what, was, s)
		}
		if next, _ := act(s); !record.Same(next, again) {
			t.Errorf("%s: once more tells %+v, want %+v", what, next, again)
		}
		again.Ports, again.Beat = was.Ports, was.Beat
		if !record.Same(again, was) {
			t.Errorf("%s: %+v is otherwise: %+v", what, was, again)
		}
	}
}

// P18.1: the shown fields are all, in their order.
func TestFields(t *testing.T) {
	p := proposal(of(1, 2, 3, 4))
	if got := (tree.Told{7, p}); got != at(7, p) {
		t.Errorf("%+v", got)
	}
	if got := (tree.Out{[]tree.Told{at(7, p)}, []int{5}}); got.Told[0].Port != 7 || got.Flush[0] != 5 {
		t.Errorf("%+v", got)
	}
}
