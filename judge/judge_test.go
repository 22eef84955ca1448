package judge_test

import (
	"slices"
	"testing"

	"girder/addr"
	"girder/api"
	"girder/bpdu"
	"girder/bridge"
	"girder/classify"
	"girder/frame"
	"girder/judge"
	"girder/net"
	"girder/record"
	"girder/vector"
	"girder/vlan"
)

// The roles of ports, in short.
const (
	dis = record.Disabled
	alt = record.Alternate
	rut = record.Root
	des = record.Designated
)

// state of a bridge with an ID, and ports of such costs.
func state(id addr.ID, costs ...uint32) record.State {
	s := record.State{Config: record.Config{ID: id, MaxAge: 8, Hello: 1, Delay: 2, Room: 4, Live: 9}}
	for _, c := range costs {
		s.Ports = append(s.Ports, record.Port{Port: classify.Port{Pvid: 1}, Cost: c, Admin: true})
	}
	s.Vlans = []vlan.Vlan{{Vid: 1, Members: 1}}
	return s
}

// made net of which nothing is wrong.
func made(t *testing.T, l []record.State, cables ...net.Cable) *net.Net {
	t.Helper()
	n, err := net.New(l, cables)
	if n == nil || err != api.OK {
		t.Fatalf("New of %+v, %+v: %v, %d", l, cables, n, err)
	}
	return n
}

// ring of three bridges, 9, 8 and 7: each one's port 2 leads to the next one's port 1.
func ring(t *testing.T, change ...func(p *record.Port)) *net.Net {
	t.Helper()
	l := []record.State{state(9, 1, 1), state(8, 1, 1), state(7, 1, 1)}
	for i := range l {
		for p := range l[i].Ports {
			for _, f := range change {
				f(&l[i].Ports[p])
			}
		}
	}
	return made(t, l, net.Cable{A: 0, PortA: 2, B: 1, PortB: 1}, net.Cable{A: 1, PortA: 2, B: 2, PortB: 1}, net.Cable{A: 2, PortA: 2, B: 0, PortB: 1})
}

// round: all that is under way comes, and then each bridge ticks.
func round(t *testing.T, n *net.Net) {
	t.Helper()
	if n.Flow(1<<20) == 1<<20 {
		t.Fatal("frames come for ever")
	}
	bridges, _ := n.Size()
	for i := range bridges {
		n.Tick(i)
	}
}

// calm net, behind so many rounds.
func calm(t *testing.T, n *net.Net, rounds int) *net.Net {
	t.Helper()
	for range rounds {
		round(t, n)
	}
	return n
}

// does something with a bridge, which goes well.
func does(t *testing.T, n *net.Net, i int, act func(b *bridge.Bridge) ([]bridge.Sent, api.Errno)) {
	t.Helper()
	if err := n.Do(i, act); err != api.OK {
		t.Fatalf("Do: %d", err)
	}
}

// switches a bridge's port: its link, and whether it may take part.
func switches(t *testing.T, n *net.Net, i, port int, up, admin bool) {
	t.Helper()
	does(t, n, i, func(b *bridge.Bridge) ([]bridge.Sent, api.Errno) { return b.Switch(port, up, admin) })
}

// told at a bridge's port, by no bridge that there is: a vector.
func told(port int, v vector.Vector) func(b *bridge.Bridge) ([]bridge.Sent, api.Errno) {
	f, _ := bpdu.Wrap(addr.FromInt(7), bpdu.PDU{Kind: bpdu.Rapid, Role: bpdu.Designated, Root: v.Root, Cost: v.Cost, Bridge: v.Bridge, Port: v.Port})
	s, _ := frame.Encode(f)
	return func(b *bridge.Bridge) ([]bridge.Sent, api.Errno) { return b.Frame(port, s) }
}

// of a bridge: its root, its cost, its ports' roles.
func of(root addr.ID, cost uint32, roles ...int) judge.Bridge {
	b := judge.Bridge{Root: root, Cost: cost}
	for _, r := range roles {
		b.Ports = append(b.Ports, judge.Port{Role: r, Forward: r == rut || r == des})
	}
	return b
}

// same: are bridges as they should be alike?
func same(a, b []judge.Bridge) bool {
	return slices.EqualFunc(a, b, func(a, b judge.Bridge) bool {
		return a.Root == b.Root && a.Cost == b.Cost && slices.Equal(a.Ports, b.Ports)
	})
}

// expects: bridges should be that.
func expects(t *testing.T, what string, n *net.Net, want ...judge.Bridge) {
	t.Helper()
	if got := judge.Expect(n); !same(got, want) {
		t.Errorf("%s: Expect\ntells %+v\nwant  %+v", what, got, want)
	}
}

// judged: a net is settled, consistent and looping, or isn't.
func judged(t *testing.T, what string, n *net.Net, settled, consistent, cycle bool) {
	t.Helper()
	if a, b, c := judge.Settled(n), judge.Consistent(n), judge.Cycle(n); a != settled || b != consistent || c != cycle {
		t.Errorf("%s: Settled %v, Consistent %v, Cycle %v, want %v, %v, %v", what, a, b, c, settled, consistent, cycle)
	}
}

// P28.1, P28.2, and the example: three bridges in a ring, also where one cable is cut, or all are; how they are doesn't count for Expect.
func TestRing(t *testing.T) {
	for _, rounds := range []int{0, 1, 30} {
		n := calm(t, ring(t), rounds)
		expects(t, "ring", n, of(7, 1, rut, alt), of(7, 1, des, rut), of(7, 0, des, des))
		n.Cut(2, false)
		expects(t, "cut", n, of(7, 2, dis, rut), of(7, 1, des, rut), of(7, 0, des, dis))
		n.Cut(1, false)
		expects(t, "two cut", n, of(8, 1, dis, rut), of(8, 0, des, dis), of(7, 0, dis, dis))
		n.Cut(2, true)
		expects(t, "one joined", n, of(7, 1, rut, des), of(7, 2, rut, dis), of(7, 0, dis, des))
		n.Cut(0, false)
		n.Cut(2, false)
		expects(t, "all cut", n, of(9, 0, dis, dis), of(8, 0, dis, dis), of(7, 0, dis, dis))
		judged(t, "all cut", n, true, true, false)
	}
	judged(t, "calm", calm(t, ring(t), 30), true, true, false)
}

// P28.1: of each cable the port at the end farther from the root counts; a longer way may cost less.
func TestExpectCosts(t *testing.T) {
	cables := []net.Cable{{A: 0, PortA: 1, B: 1, PortB: 1}, {A: 2, PortA: 1, B: 1, PortB: 2}, {A: 0, PortA: 2, B: 2, PortB: 2}}
	n := made(t, []record.State{state(1, 100, 200), state(3, 5, 70), state(2, 30, 40)}, cables...)
	expects(t, "one way", n, of(1, 0, des, des), of(1, 5, rut, des), of(1, 35, rut, alt))
	n = made(t, []record.State{state(1, 100, 200), state(3, 5, 70), state(2, 30, 34)}, cables...)
	expects(t, "the other way", n, of(1, 0, des, des), of(1, 5, rut, des), of(1, 34, alt, rut))
	n = made(t, []record.State{state(1, 100, 200), state(3, 5, 70), state(2, 30, 35)}, cables...)
	expects(t, "equal ways", n, of(1, 0, des, des), of(1, 5, rut, des), of(1, 35, alt, rut)) // the bridge 1 tells better than 3
	n = made(t, []record.State{state(2, 100, 200), state(1, 5, 70), state(3, 30, 35)}, cables...)
	expects(t, "another root", n, of(1, 100, rut, alt), of(1, 0, des, des), of(1, 30, rut, des))
	var l []record.State
	cables = nil
	for i := range 8 {
		l = append(l, state(addr.ID(1+i), api.MaxCost, api.MaxCost))
		if i > 0 {
			cables = append(cables, net.Cable{A: i, PortA: 1, B: i - 1, PortB: 2})
		}
	}
	row := judge.Expect(made(t, l, cables...))
	for i, b := range row {
		if b.Cost != uint32(i)*api.MaxCost || b.Root != 1 {
			t.Errorf("in a row: %+v", row)
		}
	}
}

// P28.1: what decides between ways of equal costs, and between the ends of a cable: the bridge that tells, and its port's ID.
func TestExpectTies(t *testing.T) {
	crossed := []net.Cable{{A: 0, PortA: 1, B: 1, PortB: 2}, {A: 0, PortA: 2, B: 1, PortB: 1}}
	l := []record.State{state(1, 7, 7), state(2, 7, 7)}
	expects(t, "the least port of the other end", made(t, l, crossed...), of(1, 0, des, des), of(1, 7, alt, rut))
	l[0].Ports[0].Priority = 1
	expects(t, "the least ID of it", made(t, l, crossed...), of(1, 0, des, des), of(1, 7, rut, alt))
	l[0].Ports[0].Priority = 0
	l[1].Ports[1].Priority = 9
	expects(t, "its own ID counts for nothing", made(t, l, crossed...), of(1, 0, des, des), of(1, 7, alt, rut))
	l[1].Ports[1].Cost = 8
	expects(t, "the cost ahead of that", made(t, l, crossed...), of(1, 0, des, des), of(1, 7, rut, alt))
	square := []net.Cable{{A: 0, PortA: 1, B: 1, PortB: 1}, {A: 0, PortA: 2, B: 2, PortB: 1}, {A: 1, PortA: 2, B: 3, PortB: 1}, {A: 2, PortA: 2, B: 3, PortB: 2}, {A: 1, PortA: 3, B: 2, PortB: 3}}
	l = []record.State{state(1, 7, 7), state(3, 7, 7, 7), state(2, 7, 7, 7), state(4, 7, 7)}
	expects(t, "the least bridge", made(t, l, square...), of(1, 0, des, des), of(1, 7, rut, des, alt), of(1, 7, rut, des, des), of(1, 14, alt, rut))
	l[1].ID = 1<<48 + 9
	l[2].ID = 2 << 48
	expects(t, "by priorities", made(t, l, square...), of(1, 0, des, des), of(1, 7, rut, des, des), of(1, 7, rut, des, alt), of(1, 14, rut, alt))
}

// P28.1: ports that aren't on, by either flag; cables with such a port aren't open; nets without bridges, ports or cables.
func TestExpectOff(t *testing.T) {
	n := ring(t)
	switches(t, n, 2, 2, true, false)
	expects(t, "one port", n, of(7, 2, des, rut), of(7, 1, des, rut), of(7, 0, des, dis))
	switches(t, n, 2, 2, false, true)
	expects(t, "its link", n, of(7, 2, des, rut), of(7, 1, des, rut), of(7, 0, des, dis))
	switches(t, n, 0, 1, true, false)
	expects(t, "both", n, of(7, 2, dis, rut), of(7, 1, des, rut), of(7, 0, des, dis))
	n.Cut(1, false)
	switches(t, n, 1, 2, true, true)
	switches(t, n, 2, 1, true, true)
	expects(t, "on, and their cable cut", n, of(8, 1, dis, rut), of(8, 0, des, des), of(7, 0, des, dis))
	n = made(t, []record.State{state(5), state(4, 1, 1), state(3)})
	expects(t, "no cables", n, of(5, 0), of(4, 0, dis, dis), of(3, 0))
	judged(t, "no cables", n, true, true, false)
	n = made(t, nil)
	expects(t, "no bridges", n)
	judged(t, "no bridges", n, true, true, false)
}

// Layer 29 says what is of nil: all well, as there is nothing.
func TestNil(t *testing.T) {
	expects(t, "nil", nil)
	judged(t, "nil", nil, true, true, false)
}

// P28.1: an answer is new memory; nothing of the net is otherwise by being judged.
func TestKeepsNothing(t *testing.T) {
	n, m := calm(t, ring(t), 30), calm(t, ring(t), 30)
	b := judge.Expect(n)
	for i := range b {
		clear(b[i].Ports)
	}
	clear(b)
	expects(t, "changed", n, of(7, 1, rut, alt), of(7, 1, des, rut), of(7, 0, des, des))
	judged(t, "changed", n, true, true, false)
	for i := range 3 {
		if !record.Same(n.State(i), m.State(i)) {
			t.Errorf("bridge %d is %+v, was %+v", i, n.State(i), m.State(i))
		}
	}
	if a, b := n.Flow(999), m.Flow(999); a != b {
		t.Errorf("%d under way, were %d", a, b)
	}
}

// pair of bridges, 2 and 1, that one cable joins.
func pair(t *testing.T) *net.Net {
	t.Helper()
	return made(t, []record.State{state(2, 1, 1), state(1, 1, 1)}, net.Cable{A: 0, PortA: 1, B: 1, PortB: 1})
}

// P28.1: a port that should forward and doesn't yet, though all roles are as they should be.
func TestSettledState(t *testing.T) {
	n := pair(t)
	judged(t, "booted", n, false, false, false)
	n.Come(0, 1)
	judged(t, "heard", n, false, true, false) // the root isn't agreed with yet: it discards
	for n.Lose(0, 0) {
	}
	for i, state := range []int{record.Discarding, record.Learning, record.Learning, record.Forwarding} {
		n.Tick(1)
		if p := n.State(1).Ports[0]; p.State != state {
			t.Fatalf("behind %d ticks: %+v", i+1, p)
		}
		judged(t, "ticked", n, state == record.Forwarding, true, false)
	}
	m := pair(t)
	m.Flow(99)
	judged(t, "agreed", m, true, true, false)
	m.Cut(0, false)
	judged(t, "cut", m, true, true, false)
	m.Cut(0, true)
	judged(t, "joined", m, false, false, false)
}

// P28.1: a port of another role than it should have, though all forward that should, and no other.
func TestSettledRole(t *testing.T) {
	n := made(t, []record.State{state(2, 1, 1), state(1, 1, 1)}, net.Cable{A: 0, PortA: 1, B: 1, PortB: 1}, net.Cable{A: 0, PortA: 2, B: 1, PortB: 2})
	n.Cut(1, false)
	calm(t, n, 9)
	judged(t, "one cut", n, true, true, false)
	n.Cut(1, true)
	for range 4 {
		n.Tick(1)
	}
	a, b := n.State(0).Ports[1], n.State(1).Ports[1]
	if a.Role != des || a.State != record.Discarding || b.Role != des || b.State != record.Forwarding {
		t.Fatalf("ports %+v, %+v", a, b)
	}
	expects(t, "joined", n, of(1, 1, rut, alt), of(1, 0, des, des))
	judged(t, "joined", n, false, false, false)
	n.Flow(99)
	judged(t, "heard", n, true, true, false)
}

// P28.1: a port that forwards, and should not; one that is on, and led nowhere yet.
func TestSettledForward(t *testing.T) {
	edge := func(p *record.Port) { p.Edge = true }
	n := ring(t, edge)
	judged(t, "edges", n, false, false, true)
	n = pair(t)
	n.Flow(99)
	judged(t, "pair", n, true, true, false)
	switches(t, n, 1, 1, true, false) // the bridge 2 still thinks that it leads to the root
	expects(t, "off", n, of(2, 0, des, dis), of(1, 0, dis, dis))
	judged(t, "off", n, false, true, false)
	calm(t, n, 9)
	judged(t, "behind that", n, true, true, false)
}

// P28.2: open cables with two designated ends, with none, or with another vector heard than is told; others count for nothing.
func TestConsistent(t *testing.T) {
	n := pair(t)
	judged(t, "two designated", n, false, false, false)
	n.Flow(99)
	judged(t, "one designated", n, true, true, false)
	does(t, n, 1, told(1, vector.Vector{Root: 0, Cost: 9, Bridge: 77}))
	for n.Lose(0, 1) {
	}
	judged(t, "none designated", n, false, false, false)
	switches(t, n, 1, 1, false, true)
	judged(t, "a port isn't on", n, false, true, false)
	switches(t, n, 1, 1, true, true)
	judged(t, "on again", n, false, true, false) // the other one still holds what is told by it
	n.Cut(0, false)
	switches(t, n, 0, 1, true, true)
	switches(t, n, 1, 1, true, true)
	judged(t, "cut", n, false, true, false)
}

// P28.2: where none is designated, equal vectors don't make it consistent.
func TestConsistentNone(t *testing.T) {
	n := pair(t)
	n.Flow(99)
	for i := range 2 {
		does(t, n, i, told(1, vector.Vector{Root: 0, Cost: 9, Bridge: 77}))
	}
	if a, b := n.State(0).Ports[0], n.State(1).Ports[0]; a.Vector != b.Vector || a.Role != rut || b.Role != rut {
		t.Fatalf("ports %+v, %+v", a, b)
	}
	judged(t, "none designated", n, false, false, false)
}

// P28.2: the vector that is heard is another one by each of its fields.
func TestConsistentVector(t *testing.T) {
	tells := vector.Vector{Root: 1, Cost: 0, Bridge: 1, Port: 1}
	for what, v := range map[string]vector.Vector{
		"the same": tells,
		"Root":     {Root: 0, Cost: 0, Bridge: 1, Port: 1},
		"Cost":     {Root: 1, Cost: 9, Bridge: 1, Port: 1},
		"Bridge":   {Root: 1, Cost: 0, Bridge: 0, Port: 1},
		"Port":     {Root: 1, Cost: 0, Bridge: 1, Port: 0},
	} {
		n := pair(t)
		n.Flow(99)
		does(t, n, 0, told(1, v))
		if p := n.State(0).Ports[0]; p.Vector != v || p.Role != rut || n.State(1).Ports[0].Vector != tells {
			t.Fatalf("%s: port %+v", what, p)
		}
		judged(t, what, n, true, v == tells, false)
	}
	n := pair(t)
	n.Flow(99)
	p := n.State(1).Ports[0]
	p.Priority = 5
	does(t, n, 1, func(b *bridge.Bridge) ([]bridge.Sent, api.Errno) { return b.SetPort(1, p) })
	judged(t, "told, but not come", n, true, false, false)
	n.Flow(99)
	judged(t, "come, but worse than what is held", n, true, false, false)
	calm(t, n, 9)
	judged(t, "held no more", n, true, true, false)
}

// P28.2: one cable that isn't is enough, wherever it stands in the net.
func TestConsistentAll(t *testing.T) {
	for c := range 3 {
		n := calm(t, ring(t), 30)
		n.Cut(c, false)
		calm(t, n, 30)
		judged(t, "cut", n, true, true, false)
		n.Cut(c, true)
		judged(t, "joined", n, false, false, false)
	}
}

// P28.2: cycles by ports at the edge, that forward at once: each port of one has to, and each cable to be open.
func TestCycle(t *testing.T) {
	edge := func(p *record.Port) { p.Edge = true }
	judged(t, "ring", ring(t, edge), false, false, true)
	judged(t, "no edges", ring(t), false, false, false)
	for c := range 3 {
		n := ring(t, edge)
		n.Cut(c, false)
		judged(t, "one cut", n, false, false, false)
		switches(t, n, c, 2, true, true)
		switches(t, n, (c+1)%3, 1, true, true)
		if a, b := n.State(c).Ports[1], n.State((c + 1) % 3).Ports[0]; a.State != record.Forwarding || b.State != record.Forwarding {
			t.Fatalf("ports %+v, %+v", a, b)
		}
		judged(t, "its ports on", n, false, false, false)
	}
	for i := range 3 {
		for p := 1; p <= 2; p++ {
			for _, set := range []func(x *record.Port){func(x *record.Port) { x.Admin = false }, func(x *record.Port) { x.Edge = false }} {
				at := 0
				n := ring(t, edge, func(x *record.Port) {
					if at == 2*i+p-1 {
						set(x)
					}
					at++
				})
				judged(t, "one port doesn't", n, false, false, false)
			}
		}
	}
}

// P28.2: two cables between two bridges are a cycle, one isn't; nor are many bridges in a tree.
func TestCycleCables(t *testing.T) {
	var l []record.State
	for i := range 8 {
		l = append(l, state(addr.ID(i), 1, 1, 1, 1, 1, 1, 1, 1))
		for p := range l[i].Ports {
			l[i].Ports[p].Edge = true
		}
	}
	var cables []net.Cable
	for i := 1; i < 8; i++ {
		cables = append(cables, net.Cable{A: i, PortA: 8, B: (i - 1) / 2, PortB: 1 + i%2})
	}
	judged(t, "tree", made(t, l, cables...), false, false, false)
	for a := range 8 {
		for b := range a {
			judged(t, "one more", made(t, l, append(cables[:7:7], net.Cable{A: a, PortA: 5, B: b, PortB: 6})...), false, false, true)
		}
	}
	for k := range 4 {
		judged(t, "two bridges", made(t, l[:2], []net.Cable{{A: 0, PortA: 1, B: 1, PortB: 1}, {A: 1, PortA: 2, B: 0, PortB: 2}, {A: 0, PortA: 3, B: 1, PortB: 3}}[:k]...), k == 0, k == 0, k > 1)
	}
}
