package tree_test

import (
	"testing"

	"girder/addr"
	"girder/bpdu"
	"girder/record"
	"girder/tree"
)

// end of a cable: a bridge's port.
type end struct {
	bridge, port int
}

// under way to an end.
type under struct {
	to  end
	pdu bpdu.PDU
}

// nets of bridges that lose nothing.
type nets struct {
	t       *testing.T
	bridges []record.State
	cables  map[end]end
	way     []under
}

// join bridges of so many ports each by cables, and start them; their IDs are those given.
func join(t *testing.T, ids []addr.ID, size int, cables ...[2]end) *nets {
	n := &nets{t: t, cables: map[end]end{}}
	for _, c := range cables {
		n.cables[c[0]], n.cables[c[1]] = c[1], c[0]
	}
	for b, id := range ids {
		s := record.State{Config: record.Config{ID: id, MaxAge: 8, Hello: 1, Delay: 2}}
		for p := 1; p <= size; p++ {
			_, up := n.cables[end{b, p}]
			s.Ports = append(s.Ports, record.Port{Cost: 1, Admin: true, Up: up})
		}
		n.bridges = append(n.bridges, s)
	}
	for b := range ids {
		n.act(b, tree.Start)
	}
	return n
}

// act on a bridge; what it tells is under way by that.
func (n *nets) act(b int, act func(s record.State) (record.State, tree.Out)) {
	s, o := act(n.bridges[b])
	n.bridges[b] = s
	chosen(n.t, s)
	for _, told := range o.Told {
		if to, ok := n.cables[end{b, told.Port}]; ok {
			n.way = append(n.way, under{to, told.PDU})
		}
	}
}

// run so many ticks: all that is under way comes, then each bridge ticks.
func (n *nets) run(ticks int) {
	for range ticks {
		for most := 0; len(n.way) > 0; most++ {
			if most > 10000 {
				n.t.Fatal("bridges tell one another for ever")
			}
			u := n.way[0]
			n.way = n.way[1:]
			n.act(u.to.bridge, func(s record.State) (record.State, tree.Out) { return tree.Hear(s, u.to.port, u.pdu) })
		}
		for b := range n.bridges {
			n.act(b, tree.Tick)
		}
	}
}

// cut the cable at an end.
func (n *nets) cut(e end) {
	o := n.cables[e]
	delete(n.cables, e)
	delete(n.cables, o)
	for _, at := range []end{e, o} {
		n.act(at.bridge, func(s record.State) (record.State, tree.Out) { return tree.Switch(s, at.port, false, true) })
	}
}

// is: each port of a bridge has that role, and forwards just where it is Root or Designated.
func (n *nets) is(b int, roles ...int) {
	n.t.Helper()
	for i, want := range roles {
		p := n.bridges[b].Ports[i]
		if forwards := want >= record.Root; p.Role != want || (p.State == record.Forwarding) != forwards {
			n.t.Errorf("bridge %d, port %d: role %d, state %d, want role %d", b, i+1, p.Role, p.State, want)
		}
	}
}

// the whole's example: two bridges, two cables.
func TestTwoCables(t *testing.T) {
	n := join(t, []addr.ID{2, 1}, 2, [2]end{{0, 1}, {1, 1}}, [2]end{{0, 2}, {1, 2}})
	n.run(30)
	n.is(0, record.Root, record.Alternate)
	n.is(1, record.Designated, record.Designated)
	n.cut(end{0, 1})
	n.is(0, record.Disabled, record.Root)
	n.is(1, record.Disabled, record.Designated)
}

// three bridges in a ring: one port is alternate; where any cable is cut, all others forward.
func TestRing(t *testing.T) {
	ring := [][2]end{{{0, 2}, {1, 1}}, {{1, 2}, {2, 1}}, {{2, 2}, {0, 1}}}
	for at := range ring {
		n := join(t, []addr.ID{5, 3, 4}, 2, ring...)
		n.run(30)
		n.is(0, record.Alternate, record.Root)
		n.is(1, record.Designated, record.Designated)
		n.is(2, record.Root, record.Designated)
		n.cut(ring[at][0])
		n.run(30)
		switch at {
		case 0:
			n.is(0, record.Root, record.Disabled)
			n.is(1, record.Disabled, record.Designated)
			n.is(2, record.Root, record.Designated)
		case 1:
			n.is(0, record.Designated, record.Root)
			n.is(1, record.Designated, record.Disabled)
			n.is(2, record.Disabled, record.Root)
		case 2:
			n.is(0, record.Disabled, record.Root)
			n.is(1, record.Designated, record.Designated)
			n.is(2, record.Root, record.Disabled)
		}
	}
}

// a bridge whose own ports are joined: one of them is a backup.
func TestOwnPorts(t *testing.T) {
	n := join(t, []addr.ID{5}, 3, [2]end{{0, 1}, {0, 2}})
	n.run(30)
	n.is(0, record.Designated, record.Backup, record.Disabled)
}

// four bridges, each joined to each other one: their roots are the least ID at each time, also where that bridge is gone.
func TestAllJoined(t *testing.T) {
	var cables [][2]end
	for a := range 4 {
		for b := range a {
			cables = append(cables, [2]end{{a, b + 1}, {b, a}})
		}
	}
	n := join(t, []addr.ID{40, 10, 30, 20}, 3, cables...)
	n.run(40)
	n.is(1, record.Designated, record.Designated, record.Designated)
	n.is(3, record.Designated, record.Root, record.Designated)
	n.is(2, record.Designated, record.Root, record.Alternate)
	n.is(0, record.Root, record.Alternate, record.Alternate)
	for p := 1; p <= 3; p++ {
		n.cut(end{1, p})
	}
	n.run(40)
	n.is(1, record.Disabled, record.Disabled, record.Disabled)
	n.is(3, record.Designated, record.Disabled, record.Designated)
	n.is(2, record.Designated, record.Disabled, record.Root)
	n.is(0, record.Disabled, record.Alternate, record.Root)
}
