package net_test

import (
	"testing"

	"girder/addr"
	"girder/api"
	"girder/bridge"
	"girder/frame"
	"girder/image"
	"girder/net"
	"girder/record"
)

// station's frame, that goes nowhere, but is learnt from.
func station(from uint64) string {
	s, _ := frame.Encode(frame.Frame{Src: addr.FromInt(from), Dst: addr.FromInt(nowhere), Type: 0x800})
	return s
}

// P27.2: a tick of that bridge alone; what it sends is under way.
func TestTick(t *testing.T) {
	n := twins(t)
	calm(t, n, 9)
	want := all(n)
	b := bridge.Load(want[0])
	b.Tick()
	want[0] = b.State()
	fails(t, n.Tick(0), api.OK)
	are(t, "a tick", n, want)
	left(t, "a tick", n, [2]int{1, 0}, [2]int{0, 1})
}

// P27.2: act is called once, with that bridge; its error is the answer, and what it sends is under way at the ports that cables join.
func TestDo(t *testing.T) {
	l := []bridge.Sent{{Port: 1, Data: station(4)}, {Port: 2, Data: station(6)}, {Port: 3, Data: "x"}, {Port: 1, Data: ""}, {Port: 0}, {Port: 4}, {Port: -1}, {Port: 1 << 32}}
	for _, err := range []api.Errno{api.OK, api.ErrPort, api.ErrMode, api.ErrArg, -1, 99} {
		n := twins(t)
		calm(t, n, 9)
		was := all(n)
		calls := 0
		got := n.Do(0, func(b *bridge.Bridge) ([]bridge.Sent, api.Errno) {
			calls++
			if !record.Same(b.State(), was[0]) {
				t.Errorf("called with %+v", b.State())
			}
			return l, err
		})
		fails(t, got, err)
		if calls != 1 {
			t.Errorf("called %d times", calls)
		}
		are(t, "Do", n, was)
		b := bridge.Load(was[1])
		b.Frame(2, l[0].Data)
		n.Come(0, 0)
		is(t, "come", n, 1, b.State())
		left(t, "Do", n, [2]int{1, 0}, [2]int{0, 1})
	}
	n := twins(t)
	n.Flow(99)
	was := all(n)
	fails(t, n.Do(1, nil), api.ErrArg)
	are(t, "Do of nothing", n, was)
	left(t, "Do of nothing", n)
}

// P27.2: what act does with its bridge is done.
func TestDoes(t *testing.T) {
	n := twins(t)
	calm(t, n, 9)
	b := bridge.Load(n.State(1))
	act := func(b *bridge.Bridge) ([]bridge.Sent, api.Errno) { return b.Switch(2, true, false) }
	act(b)
	fails(t, n.Do(1, act), api.OK)
	is(t, "switched", n, 1, b.State())
	fails(t, n.Do(1, func(b *bridge.Bridge) ([]bridge.Sent, api.Errno) { return b.Frame(4, "") }), api.ErrPort)
	is(t, "a frame at no port", n, 1, b.State())
}

// P27.2: what comes from an end is the other end's bridge's, at that port, be it a frame or not; what this sends by that is under way.
func TestCome(t *testing.T) {
	for c, x := range []net.Cable{{A: 0, PortA: 1, B: 1, PortB: 2}, {A: 1, PortA: 1, B: 0, PortB: 3}} {
		for from := range 2 {
			at, to := x, [2]int{x.B, x.PortB}
			if from == 1 {
				at, to = net.Cable{A: x.B, PortA: x.PortB}, [2]int{x.A, x.PortA}
			}
			n := twins(t)
			calm(t, n, 9)
			want := all(n)
			b := bridge.Load(want[to[0]])
			for i, data := range []string{station(4), "", "no frame", station(6), station(4)} {
				sends(t, n, at.A, bridge.Sent{Port: at.PortA, Data: data})
				are(t, "sent", n, want)
				if n.Come(c, 1-from) || !n.Come(c, from) || n.Come(c, from) {
					t.Fatalf("cable %d, from %d: not the text %d alone came", c, from, i)
				}
				b.Frame(to[1], data)
				want[to[0]] = b.State()
				are(t, "come", n, want)
			}
			if got := want[to[0]].Counts[0] - all(twins(t))[to[0]].Counts[0]; got < 5 {
				t.Errorf("only %d frames counted", got)
			}
			left(t, "come", n)
		}
	}
	n := twins(t) // the bridge 0 is the root: its PDU is answered, and told further
	n.Come(0, 0)
	left(t, "an answer", n, [2]int{0, 2}, [2]int{2, 1})
}

// P27.2: what is lost doesn't come; no bridge knows of it.
func TestLose(t *testing.T) {
	n := twins(t)
	calm(t, n, 9)
	was := all(n)
	sends(t, n, 0, bridge.Sent{Port: 1, Data: "lost"}, bridge.Sent{Port: 1, Data: station(4)})
	if n.Lose(0, 1) || n.Lose(1, 0) || n.Lose(1, 1) || !n.Lose(0, 0) {
		t.Error("what was lost?")
	}
	are(t, "lost", n, was)
	b := bridge.Load(was[1])
	b.Frame(2, station(4))
	if !n.Come(0, 0) || n.Lose(0, 0) || n.Come(0, 0) {
		t.Error("what came?")
	}
	is(t, "come", n, 1, b.State())
}

// P27.2: as many as a link takes are under way; more are lost.
func TestFull(t *testing.T) {
	n := twins(t)
	calm(t, n, 9)
	for range 1200 {
		n.Tick(0)
		n.Tick(1)
	}
	left(t, "full", n, [2]int{1000, 1000}, [2]int{1000, 1000})
}

// switched twins: what they are, and what is under way in the other cable, where both ports of a cable are switched.
func switched(was []record.State, cable int, up bool) ([]record.State, [2][2]int) {
	var l []record.State
	var under [2][2]int
	for i, s := range was {
		b := bridge.Load(s)
		sent, _ := b.Switch(twinPorts[cable][i], up, s.Ports[twinPorts[cable][i]-1].Admin)
		l = append(l, b.State())
		for _, x := range sent {
			for c, ports := range twinPorts {
				if x.Port == ports[i] {
					under[c][twinEnds[c][i]]++
				}
			}
		}
	}
	return l, under
}

// P27.2: a cable that is cut: both its ports' links are down, and what was under way in it is lost; what the bridges send by that is under way.
func TestCut(t *testing.T) {
	for c := range 2 {
		n := twins(t)
		calm(t, n, 9)
		laden(t, n)
		want, under := switched(all(n), c, false)
		fails(t, n.Cut(c, false), api.OK)
		are(t, "cut", n, want)
		for i := range 2 {
			if x, up := n.Cable(i); up != (i != c) || x.A != i {
				t.Errorf("Cable(%d) = %+v, %v", i, x, up)
			}
			under[1-c][i]++ // of what was under way ahead of the cut
			sends(t, n, i, bridge.Sent{Port: twinPorts[c][i], Data: "x"})
		}
		if n.Come(c, 0) || n.Come(c, 1) {
			t.Error("one came by a cable that is cut")
		}
		are(t, "cut", n, want)
		left(t, "cut", n, under[:]...)
	}
}

// P27.2: the twins' bridge 1 leans on the cable 1 at once, where the cable 0 is cut, and comes back.
func TestCutOver(t *testing.T) {
	roles := func(n *net.Net) [2]int {
		l := n.State(1).Ports
		return [2]int{l[0].Role, l[1].Role}
	}
	n := twins(t)
	calm(t, n, 9)
	if got := roles(n); got != [2]int{record.Root, record.Alternate} {
		t.Errorf("roles %v", got)
	}
	fails(t, n.Cut(1, false), api.OK)
	if got := roles(n); got != [2]int{record.Disabled, record.Root} {
		t.Errorf("cut: roles %v", got)
	}
	fails(t, n.Cut(1, true), api.OK)
	calm(t, n, 9)
	if got := roles(n); got != [2]int{record.Root, record.Alternate} {
		t.Errorf("joined: roles %v", got)
	}
}

// P27.2: a cable that is joined again: both its ports' links are up, and tell by it.
func TestJoin(t *testing.T) {
	for c := range 2 {
		n := twins(t)
		calm(t, n, 9)
		n.Cut(c, false)
		calm(t, n, 9)
		want, under := switched(all(n), c, true)
		fails(t, n.Cut(c, true), api.OK)
		are(t, "joined", n, want)
		if x, up := n.Cable(c); !up || x.A != c {
			t.Errorf("Cable(%d) = %+v, %v", c, x, up)
		}
		if under[c] != [2]int{1, 1} {
			t.Errorf("%v told", under)
		}
		left(t, "joined", n, under[:]...)
	}
}

// P27.2: where a cable is so already nothing is otherwise, whatever its ports' links are by then.
func TestCutTwice(t *testing.T) {
	for _, up := range []bool{true, false} {
		n := twins(t)
		calm(t, n, 9)
		n.Cut(0, up)
		n.Flow(99)
		fails(t, n.Do(0, func(b *bridge.Bridge) ([]bridge.Sent, api.Errno) { return b.Switch(1, !up, true) }), api.OK)
		n.Flow(99)
		laden(t, n)
		was := all(n)
		fails(t, n.Cut(0, up), api.OK)
		are(t, "so already", n, was)
		if _, is := n.Cable(0); is != up {
			t.Errorf("up: %v, want %v", is, up)
		}
		under := [][2]int{{}, {1, 1}}
		if up {
			under[0] = under[1]
		}
		left(t, "so already", n, under...)
	}
}

// P27.2: a port that may not take part stays so, be its cable cut or joined; one that may, likewise.
func TestCutAdmin(t *testing.T) {
	n := twins(t)
	calm(t, n, 9)
	for i, admin := range []bool{true, false} {
		for _, up := range []bool{true, false, true} {
			fails(t, n.Do(1, func(b *bridge.Bridge) ([]bridge.Sent, api.Errno) { return b.Switch(2, up, admin) }), api.OK)
			for _, cut := range []bool{i == 0, i == 1, i == 0} {
				fails(t, n.Cut(0, cut), api.OK)
				if _, is := n.Cable(0); is != cut {
					t.Fatal("not cut or joined")
				}
			}
			fails(t, n.Cut(0, i == 1), api.OK)
			if p := n.State(1).Ports[1]; p.Up != (i == 1) || p.Admin != admin || p.On() {
				t.Errorf("port %+v", p)
			}
			if p := n.State(0).Ports[0]; p.Up != (i == 1) || !p.Admin {
				t.Errorf("other port %+v", p)
			}
		}
		n.Cut(0, true)
		calm(t, n, 9)
	}
}

// learnt twins, to be upgraded: each has learnt a station, has counts, roles, and a text under way in each cable from each end.
func learnt(t *testing.T) *net.Net {
	t.Helper()
	n := twins(t)
	calm(t, n, 9)
	sends(t, n, 0, bridge.Sent{Port: 3, Data: station(4)})
	sends(t, n, 1, bridge.Sent{Port: 1, Data: station(6)})
	n.Flow(2)
	for i := range 2 {
		n.Tick(i)
		if len(n.State(i).Fdb) != 1 {
			t.Fatalf("bridge %d learnt %+v", i, n.State(i).Fdb)
		}
	}
	for c := range 2 {
		for n.Lose(c, 0) || n.Lose(c, 1) {
		}
	}
	laden(t, n)
	return n
}

// P27.2: an upgrade: in version 3 nothing is otherwise, in elder ones the bridge starts with what is left, and tells; others are errors.
func TestUpgrade(t *testing.T) {
	for i := range 2 {
		for version := range 256 {
			n := learnt(t)
			want, under := all(n), [2][2]int{{1, 1}, {1, 1}}
			err := api.OK
			switch version {
			case 1, 2:
				b := bridge.Load(image.Lift(want[i], uint8(version)))
				if told := len(b.Start()); told != 2 {
					t.Fatalf("%d told", told)
				}
				want[i] = b.State()
				under[0][twinEnds[0][i]]++
				under[1][twinEnds[1][i]]++
			case 3:
			default:
				err = api.ErrKind
			}
			fails(t, n.Upgrade(i, uint8(version)), err)
			are(t, "upgraded", n, want)
			left(t, "upgraded", n, under[:]...)
			fails(t, n.Tick(i), api.OK) // it isn't frozen
			b := bridge.Load(want[i])
			b.Tick()
			want[i] = b.State()
			are(t, "goes on", n, want)
		}
	}
}

// P27.2: what a bridge keeps of a cable that is cut by each version: that it is.
func TestUpgradeCut(t *testing.T) {
	for version := 1; version <= 3; version++ {
		n := twins(t)
		calm(t, n, 9)
		n.Cut(0, false)
		fails(t, n.Upgrade(1, uint8(version)), api.OK)
		if l := n.State(1).Ports; l[1].Up || !l[0].Up {
			t.Errorf("version %d: %+v", version, l)
		}
		fails(t, n.Cut(0, true), api.OK)
		calm(t, n, 9)
		if l := n.State(1).Ports; l[0].Role != record.Root || l[1].Role != record.Alternate {
			t.Errorf("version %d: %+v", version, l)
		}
	}
}
