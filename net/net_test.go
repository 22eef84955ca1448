package net_test

import (
	"math"
	"slices"
	"testing"

	"girder/addr"
	"girder/api"
	"girder/bridge"
	"girder/classify"
	"girder/fdb"
	"girder/net"
	"girder/record"
	"girder/static"
	"girder/vector"
	"girder/vlan"
)

// nowhere: stations' frames to this address aren't sent on, but learnt from.
const nowhere = 2

// noneOf: numbers that none of so many things has.
func noneOf(n int) []int {
	return []int{-1, n, n + 1, -2, 255, 1 << 32, 1<<32 + 1, math.MinInt, math.MaxInt}
}

// state of a bridge with an ID, and so many ports; no link is up.
func state(id addr.ID, size int) record.State {
	s := record.State{Config: record.Config{ID: id, MaxAge: 8, Hello: 1, Delay: 2, Room: 4, Live: 900}}
	for i := range size {
		s.Ports = append(s.Ports, record.Port{Port: classify.Port{Pvid: 1}, Cost: uint32(i + 1), Admin: true})
	}
	s.Vlans = []vlan.Vlan{{Vid: 1, Members: 0xFFFF, Untagged: 0xFFFF}}
	s.Static = []static.Entry{{Key: fdb.Key{Vid: 1, Mac: addr.FromInt(nowhere)}}}
	return s
}

// states of so many bridges, with so many ports each; the first one has the least ID.
func states(n, size int) []record.State {
	var l []record.State
	for i := range n {
		l = append(l, state(addr.ID(10+i), size))
	}
	return l
}

// made net of which nothing is wrong.
func made(t *testing.T, l []record.State, cables ...net.Cable) *net.Net {
	t.Helper()
	n, err := net.New(l, cables)
	if n == nil || err != api.OK {
		t.Fatalf("New of %+v, %+v: %v, %d", l, cables, n, err)
	}
	return n
}

// twinPorts: which of the twins' ports each cable joins, and twinEnds: which end of it each of these bridges has.
var twinPorts, twinEnds = [2][2]int{{1, 2}, {3, 1}}, [2][2]int{{0, 1}, {1, 0}}

// twin bridges, that two cables join.
func twins(t *testing.T) *net.Net {
	t.Helper()
	return made(t, states(2, 3), net.Cable{A: 0, PortA: 1, B: 1, PortB: 2}, net.Cable{A: 1, PortA: 1, B: 0, PortB: 3})
}

// calm net: behind so many ticks nothing is under way.
func calm(t *testing.T, n *net.Net, ticks int) {
	t.Helper()
	bridges, _ := n.Size()
	for range ticks {
		for i := range bridges {
			fails(t, n.Tick(i), api.OK)
		}
		n.Flow(100000)
	}
	left(t, "calm", n, nil...)
}

// fails with an error, or api.OK.
func fails(t *testing.T, got, want api.Errno) {
	t.Helper()
	if got != want {
		t.Fatalf("is %d, want %d", got, want)
	}
}

// is: a bridge has that state.
func is(t *testing.T, what string, n *net.Net, i int, want record.State) {
	t.Helper()
	if got := n.State(i); !record.Same(got, want) {
		t.Fatalf("%s: bridge %d is\n%+v\nwant\n%+v", what, i, got, want)
	}
}

// all bridges' states.
func all(n *net.Net) []record.State {
	bridges, _ := n.Size()
	var l []record.State
	for i := range bridges {
		l = append(l, n.State(i))
	}
	return l
}

// are: all bridges have those states.
func are(t *testing.T, what string, n *net.Net, want []record.State) {
	t.Helper()
	if bridges, _ := n.Size(); bridges != len(want) {
		t.Fatalf("%s: %d bridges, want %d", what, bridges, len(want))
	}
	for i, s := range want {
		is(t, what, n, i, s)
	}
}

// left: just so many are under way in each cable, from each end; they are lost by that. Cables that aren't named have none.
func left(t *testing.T, what string, n *net.Net, want ...[2]int) {
	t.Helper()
	_, cables := n.Size()
	for c := range cables {
		for from := range 2 {
			lost := 0
			for n.Lose(c, from) {
				lost++
			}
			if c < len(want) && lost != want[c][from] || c >= len(want) && lost > 0 {
				t.Fatalf("%s: %d under way in cable %d from end %d, want %v", what, lost, c, from, want)
			}
		}
	}
}

// sends texts from a bridge, that nothing else happens to by that.
func sends(t *testing.T, n *net.Net, i int, l ...bridge.Sent) {
	t.Helper()
	fails(t, n.Do(i, func(*bridge.Bridge) ([]bridge.Sent, api.Errno) { return l, api.OK }), api.OK)
}

// laden twins: one text is under way in each cable from each end.
func laden(t *testing.T, n *net.Net) {
	t.Helper()
	for i := range 2 {
		for c := range 2 {
			sends(t, n, i, bridge.Sent{Port: twinPorts[c][i], Data: "x"})
		}
	}
}

// started bridge: it boots with what is cold of a state, just these ports up, and starts; and what it sends by that.
func started(s record.State, up ...int) (*bridge.Bridge, []bridge.Sent) {
	s = s.Cold()
	for i := range s.Ports {
		s.Ports[i].Up = slices.Contains(up, i+1)
	}
	b := bridge.Load(s)
	return b, b.Start()
}

// mixed up: some links of each bridge are up, ahead of any cable.
func mixed(l []record.State) []record.State {
	for i, s := range l {
		for p := range s.Ports {
			s.Ports[p].Up = (i+p)%2 == 0
		}
	}
	return l
}

// P27.1: all bridges boot, their ports up just where a cable joins them, and what they send is under way.
func TestNew(t *testing.T) {
	cables := []net.Cable{{A: 0, PortA: 1, B: 1, PortB: 4}, {A: 2, PortA: 2, B: 0, PortB: 3}, {A: 1, PortA: 1, B: 2, PortB: 1}, {A: 0, PortA: 4, B: 1, PortB: 3}}
	up := [][]int{{1, 3, 4}, {1, 3, 4}, {1, 2}, nil}
	l := mixed(states(4, 4))
	l[1].Ports[2].Admin = false
	for i := range l {
		b, _ := started(l[i], up[i]...)
		is(t, "New", made(t, l, cables...), i, b.State())
	}
	left(t, "New", made(t, l, cables...), [2]int{1, 1}, [2]int{1, 1}, [2]int{1, 1}, [2]int{1, 0})
	was := mixed(states(4, 4))
	was[1].Ports[2].Admin = false
	if !slices.EqualFunc(l, was, record.Same) {
		t.Errorf("New made of %+v\n%+v", was, l)
	}
	for c, x := range cables {
		if got, up := made(t, l, cables...).Cable(c); got != x || !up {
			t.Errorf("Cable(%d) = %+v, %v, want %+v", c, got, up, x)
		}
		comesAs(t, made(t, l, cables...), l, up, c, 0, [2]int{x.A, x.PortA}, [2]int{x.B, x.PortB})
		if c != 3 {
			comesAs(t, made(t, l, cables...), l, up, c, 1, [2]int{x.B, x.PortB}, [2]int{x.A, x.PortA})
		}
	}
}

// comesAs: what a bridge sent at its port as it booted comes at another one's port, by that cable from that end.
func comesAs(t *testing.T, n *net.Net, l []record.State, up [][]int, cable, from int, at, to [2]int) {
	t.Helper()
	_, told := started(l[at[0]], up[at[0]]...)
	b, _ := started(l[to[0]], up[to[0]]...)
	for _, s := range told {
		if s.Port == at[1] {
			b.Frame(to[1], s.Data)
		}
	}
	if b.State().Counts[0] != 1 || !n.Come(cable, from) || n.Come(cable, from) {
		t.Fatalf("not one came by cable %d from end %d", cable, from)
	}
	is(t, "come", n, to[0], b.State())
}

// P27.1: what isn't cold of the states counts for nothing; a net has its own memory.
func TestNewOfBegun(t *testing.T) {
	n := twins(t)
	calm(t, n, 9)
	l := all(n)
	l[0].Ports[1].Vector = vector.Vector{Root: 1}
	l[1].Beat = -9
	l[1].Counts[3] = 77
	cables := []net.Cable{{A: 0, PortA: 1, B: 1, PortB: 2}, {A: 1, PortA: 1, B: 0, PortB: 3}}
	was := []record.State{l[0].Clone(), l[1].Clone()}
	m := made(t, l, cables...)
	want := all(twins(t))
	are(t, "begun", m, want)
	for i := range l {
		if !record.Same(l[i], was[i]) {
			t.Errorf("New made of %+v\n%+v", was[i], l[i])
		}
		clear(l[i].Ports)
		clear(l[i].Vlans)
		clear(l[i].Static)
	}
	clear(cables)
	are(t, "lists changed", m, want)
	for _, s := range all(m) {
		clear(s.Ports)
		clear(s.Vlans)
		clear(s.Static)
	}
	are(t, "told lists changed", m, want)
	if c, up := m.Cable(1); c != (net.Cable{A: 1, PortA: 1, B: 0, PortB: 3}) || !up {
		t.Errorf("Cable(1) = %+v, %v", c, up)
	}
	left(t, "begun", m, [2]int{1, 1}, [2]int{1, 1})
}

// P27.1: as many bridges and cables as may be; and none.
func TestNewMost(t *testing.T) {
	var cables []net.Cable
	for i := range 24 {
		cables = append(cables, net.Cable{A: i % 8, PortA: 16 - i/8, B: (i + 1) % 8, PortB: 1 + i/8})
	}
	n := made(t, states(8, 16), cables...)
	if b, c := n.Size(); b != 8 || c != 24 {
		t.Errorf("Size = %d, %d", b, c)
	}
	for i, want := range cables {
		if c, up := n.Cable(i); c != want || !up {
			t.Errorf("Cable(%d) = %+v, %v", i, c, up)
		}
	}
	for i := range 9 {
		n := made(t, states(i, i))
		if b, c := n.Size(); b != i || c != 0 {
			t.Errorf("Size = %d, %d, want %d, 0", b, c, i)
		}
		for b, s := range states(i, i) {
			want, _ := started(s)
			is(t, "without cables", n, b, want.State())
		}
	}
}

// refused: New tells an error, and no net.
func refused(t *testing.T, what string, l []record.State, cables []net.Cable, want api.Errno) {
	t.Helper()
	if n, err := net.New(l, cables); n != nil || err != want {
		t.Errorf("%s: New: %v, %d, want %d", what, n, err, want)
	}
}

// P27.1: cables that may not be.
func TestNewCables(t *testing.T) {
	good := net.Cable{A: 0, PortA: 1, B: 1, PortB: 2}
	l := states(3, 4)
	l[1].Ports = l[1].Ports[:2]
	bad := map[string][]net.Cable{
		"one bridge, two ports": {{A: 1, PortA: 1, B: 1, PortB: 2}},
		"one bridge, one port":  {{A: 1, PortA: 1, B: 1, PortB: 1}},
		"twice":                 {good, good},
		"twice the other way":   {good, {A: 1, PortA: 2, B: 0, PortB: 1}},
		"port at two ends 0":    {good, {A: 0, PortA: 1, B: 2, PortB: 1}},
		"port at ends 0, 1":     {good, {A: 2, PortA: 1, B: 0, PortB: 1}},
		"port at ends 1, 0":     {good, {A: 1, PortA: 2, B: 2, PortB: 1}},
		"port at two ends 1":    {good, {A: 2, PortA: 1, B: 1, PortB: 2}},
		"port of another's":     {{A: 1, PortA: 3, B: 2, PortB: 3}},
		"no port at all":        {{}},
		"the third one":         {good, {A: 0, PortA: 2, B: 1, PortB: 1}, {A: 0, PortA: 3, B: 1, PortB: 3}},
	}
	for what, cables := range bad {
		refused(t, what, l, cables, api.ErrPort)
	}
	for _, i := range noneOf(3) {
		refused(t, "no bridge at end 0", l, []net.Cable{{A: i, PortA: 1, B: 1, PortB: 1}}, api.ErrPort)
		refused(t, "no bridge at end 1", l, []net.Cable{{A: 1, PortA: 1, B: i, PortB: 1}}, api.ErrPort)
		refused(t, "no bridges", l, []net.Cable{{A: i, PortA: 1, B: i, PortB: 2}}, api.ErrPort)
	}
	for _, p := range append(noneOf(5), 0) {
		refused(t, "no port at end 0", l, []net.Cable{{A: 0, PortA: p, B: 1, PortB: 1}}, api.ErrPort)
		refused(t, "no port at end 1", l, []net.Cable{{A: 1, PortA: 1, B: 0, PortB: p}}, api.ErrPort)
	}
	refused(t, "no bridges", nil, []net.Cable{good}, api.ErrPort)
	made(t, l, good, net.Cable{A: 1, PortA: 1, B: 0, PortB: 4})
}

// P27.1: too many, two of one ID, what layer 25 refuses; the first of these.
func TestNewErrors(t *testing.T) {
	spoilt := func(n int, at ...int) []record.State {
		l := states(n, 2)
		for _, i := range at {
			l[i].Ports[0].Pvid = 0
		}
		return l
	}
	equal := func(l []record.State, a, b int) []record.State {
		l[a].ID = l[b].ID
		return l
	}
	bad, many := make([]net.Cable, 1), make([]net.Cable, 25)
	refused(t, "nine", states(9, 2), nil, api.ErrRange)
	refused(t, "nine, and all else", equal(spoilt(9, 0), 1, 2), bad, api.ErrRange)
	refused(t, "many cables, and all else", equal(spoilt(3, 0), 1, 2), many, api.ErrRange)
	refused(t, "many cables alone", nil, many, api.ErrRange)
	for a := range 8 {
		for b := range a {
			refused(t, "one ID", equal(states(8, 2), a, b), nil, api.ErrTwice)
		}
	}
	refused(t, "one ID, and all else", equal(spoilt(3, 0), 0, 2), bad, api.ErrTwice)
	refused(t, "bad cables and states", spoilt(3, 0), bad, api.ErrPort)
	for i := range 8 {
		refused(t, "a state", spoilt(8, i), nil, api.ErrVlan)
	}
	l := spoilt(4, 1, 3)
	l[2].Hello = 0
	refused(t, "several states", l, nil, api.ErrVlan)
	l[0].MaxAge = 99
	refused(t, "several states", l, nil, api.ErrRange)
	refused(t, "many ports", states(2, 17), []net.Cable{{A: 0, PortA: 17, B: 1, PortB: 17}}, api.ErrPort)
}

// P27.1, P27.2: bridges, cables and ends that there aren't; nothing is otherwise by that.
func TestNone(t *testing.T) {
	n := twins(t)
	calm(t, n, 3)
	laden(t, n)
	was := all(n)
	for _, i := range noneOf(2) {
		is(t, "no bridge", n, i, record.State{})
		if c, up := n.Cable(i); c != (net.Cable{}) || up {
			t.Errorf("Cable(%d) = %+v, %v", i, c, up)
		}
		fails(t, n.Tick(i), api.ErrNone)
		fails(t, n.Cut(i, true), api.ErrNone)
		fails(t, n.Cut(i, false), api.ErrNone)
		for _, version := range []uint8{0, 1, 3, 4} {
			fails(t, n.Upgrade(i, version), api.ErrNone)
		}
		fails(t, n.Do(i, nil), api.ErrNone)
		fails(t, n.Do(i, func(*bridge.Bridge) ([]bridge.Sent, api.Errno) {
			t.Error("called")
			return []bridge.Sent{{Port: 1, Data: "x"}}, api.OK
		}), api.ErrNone)
		for from := range 2 {
			if n.Come(i, from) || n.Lose(i, from) || n.Come(from, i) || n.Lose(from, i) || n.Come(i, i) || n.Lose(i, i) {
				t.Errorf("one came of %d, %d", i, from)
			}
		}
	}
	are(t, "none", n, was)
	left(t, "none", n, [2]int{1, 1}, [2]int{1, 1})
}

// P27.1, P27.2, P27.3: of nil.
func TestNil(t *testing.T) {
	var n *net.Net
	if b, c := n.Size(); b != 0 || c != 0 {
		t.Errorf("Size = %d, %d", b, c)
	}
	act := func(*bridge.Bridge) ([]bridge.Sent, api.Errno) {
		t.Error("called")
		return nil, api.OK
	}
	for _, i := range append(noneOf(2), 0, 1) {
		is(t, "nil", n, i, record.State{})
		if c, up := n.Cable(i); c != (net.Cable{}) || up {
			t.Errorf("Cable(%d) = %+v, %v", i, c, up)
		}
		for _, err := range []api.Errno{n.Tick(i), n.Cut(i, true), n.Cut(i, false), n.Upgrade(i, 3), n.Upgrade(i, 9), n.Do(i, act), n.Do(i, nil)} {
			fails(t, err, api.ErrArg)
		}
		if n.Come(i, 0) || n.Come(0, i) || n.Lose(i, 0) || n.Lose(0, i) || n.Flow(i) != 0 {
			t.Error("one came")
		}
	}
}
