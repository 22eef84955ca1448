package net_test

import (
	"math"
	"testing"

	"girder/addr"
	"girder/bridge"
	"girder/frame"
	"girder/net"
	"girder/record"
)

// star of a bridge 0, the root, whose port 1 leads to the bridge 2, its port 2 to the bridge 3, and its port 3 to the bridge 1; cables' ends are mixed.
func star(t *testing.T) *net.Net {
	t.Helper()
	n := made(t, states(4, 3), net.Cable{A: 2, PortA: 1, B: 0, PortB: 1}, net.Cable{A: 0, PortA: 2, B: 3, PortB: 1}, net.Cable{A: 1, PortA: 1, B: 0, PortB: 3})
	calm(t, n, 40)
	return n
}

// load of stations' frames, as many from each cable's ends as said, each of another station.
func load(t *testing.T, n *net.Net, many [3][2]int) {
	t.Helper()
	who := uint64(4)
	for c, l := range many {
		x, _ := n.Cable(c)
		for from, at := range [2][2]int{{x.A, x.PortA}, {x.B, x.PortB}} {
			for range l[from] {
				sends(t, n, at[0], bridge.Sent{Port: at[1], Data: station(who)})
				who += 2
			}
		}
	}
}

// P27.3: cable by cable, rising, the end 0 and then the end 1, one each; then anew; no more than are asked for.
func TestFlow(t *testing.T) {
	for _, c := range []struct {
		many  [3][2]int
		order [][2]int // cables and ends
	}{
		{[3][2]int{}, nil},
		{[3][2]int{{1, 1}, {1, 1}, {1, 1}}, [][2]int{{0, 0}, {0, 1}, {1, 0}, {1, 1}, {2, 0}, {2, 1}}},
		{[3][2]int{{2, 0}, {0, 3}, {1, 2}}, [][2]int{{0, 0}, {1, 1}, {2, 0}, {2, 1}, {0, 0}, {1, 1}, {2, 1}, {1, 1}}},
		{[3][2]int{{0, 0}, {0, 0}, {0, 4}}, [][2]int{{2, 1}, {2, 1}, {2, 1}, {2, 1}}},
		{[3][2]int{{0, 1}, {2, 0}, {0, 0}}, [][2]int{{0, 1}, {1, 0}, {1, 0}}},
		{[3][2]int{{3, 2}, {0, 0}, {1, 0}}, [][2]int{{0, 0}, {0, 1}, {2, 0}, {0, 0}, {0, 1}, {0, 0}}},
	} {
		for most := range len(c.order) + 3 {
			n, want := star(t), star(t)
			load(t, n, c.many)
			load(t, want, c.many)
			come := min(most, len(c.order))
			under := c.many
			for _, x := range c.order[:come] {
				want.Come(x[0], x[1])
				under[x[0]][x[1]]--
			}
			if got := n.Flow(most); got != come {
				t.Errorf("Flow(%d) of %v: %d came", most, c.many, got)
			}
			are(t, "flow", n, all(want))
			left(t, "flow", n, under[:]...)
		}
	}
}

// P27.3: one station's frames from all ends of the bridge 0: the last one that came is told by its port.
func TestFlowLast(t *testing.T) {
	for most, want := range []uint16{0, 1, 2, 3, 1, 3, 3} {
		n := star(t)
		sends(t, n, 2, bridge.Sent{Port: 1, Data: station(4)}, bridge.Sent{Port: 1, Data: station(4)})
		sends(t, n, 1, bridge.Sent{Port: 1, Data: station(4)}, bridge.Sent{Port: 1, Data: station(4)})
		sends(t, n, 3, bridge.Sent{Port: 1, Data: station(4)})
		n.Flow(most)
		got := uint16(0)
		for _, e := range n.State(0).Fdb {
			got = uint16(e.Port)
		}
		if got != want {
			t.Errorf("behind %d it is behind port %d, want %d", most, got, want)
		}
	}
}

// P27.3: fewer than one comes nowhere; as many as there are come of the most.
func TestFlowBounds(t *testing.T) {
	for _, most := range []int{0, -1, -2, math.MinInt} {
		n := twins(t)
		was := all(n)
		if got := n.Flow(most); got != 0 {
			t.Errorf("Flow(%d) = %d", most, got)
		}
		are(t, "nothing", n, was)
		left(t, "nothing", n, [2]int{1, 1}, [2]int{1, 1})
	}
	n, m := twins(t), twins(t)
	a, b := n.Flow(math.MaxInt), m.Flow(99999)
	if a != b || a < 8 || n.Flow(math.MaxInt) != 0 {
		t.Errorf("%d, %d came", a, b)
	}
	are(t, "all", n, all(m))
	left(t, "all", n)
}

// P27.3, and the example: what is sent by what comes, comes, too; each hears of the other one.
func TestFlowOn(t *testing.T) {
	n := made(t, states(2, 1), net.Cable{A: 1, PortA: 1, B: 0, PortB: 1})
	if got := n.Flow(9); got < 3 || got >= 9 {
		t.Errorf("%d came", got)
	}
	left(t, "flow", n)
	a, b := n.State(0).Ports[0], n.State(1).Ports[0]
	if a.Role != record.Designated || a.State != record.Forwarding || b.Role != record.Root || b.Vector != a.Vector || a.Plain || b.Plain {
		t.Errorf("they are %+v, %+v", a, b)
	}
}

// P27.3: a frame comes along a row of bridges by one call, as they send it on; how far is asked ahead of each.
func TestFlowAlong(t *testing.T) {
	data, _ := frame.Encode(frame.Frame{Src: addr.FromInt(4), Dst: addr.FromInt(6), Type: 0x800})
	for most := range 7 {
		n := made(t, states(5, 2), net.Cable{A: 0, PortA: 2, B: 1, PortB: 1}, net.Cable{A: 1, PortA: 2, B: 2, PortB: 1}, net.Cable{A: 2, PortA: 2, B: 3, PortB: 1}, net.Cable{A: 3, PortA: 2, B: 4, PortB: 1})
		calm(t, n, 40)
		sends(t, n, 0, bridge.Sent{Port: 2, Data: data})
		if got := n.Flow(most); got != min(most, 4) {
			t.Errorf("Flow(%d): %d came", most, got)
		}
		for i := range 5 {
			learnt := 0
			if i > 0 && i <= most {
				learnt = 1
			}
			if got := len(n.State(i).Fdb); got != learnt {
				t.Errorf("Flow(%d): bridge %d learnt %d", most, i, got)
			}
		}
	}
}

// P27.3: by a cycle of ports at the edge, that forward at once, a frame goes round as often as is asked for.
func TestFlowRound(t *testing.T) {
	l := states(3, 2)
	for i := range l {
		l[i].Ports[0].Edge, l[i].Ports[1].Edge = true, true
	}
	data, _ := frame.Encode(frame.Frame{Src: addr.FromInt(4), Dst: addr.FromInt(6), Type: 0x800})
	n := made(t, l, net.Cable{A: 0, PortA: 2, B: 1, PortB: 1}, net.Cable{A: 1, PortA: 2, B: 2, PortB: 1}, net.Cable{A: 2, PortA: 2, B: 0, PortB: 1})
	left(t, "booted", n, [2]int{1, 1}, [2]int{1, 1}, [2]int{1, 1})
	sends(t, n, 0, bridge.Sent{Port: 2, Data: data})
	for _, most := range []int{1, 2, 3000, 7} {
		if got := n.Flow(most); got != most {
			t.Errorf("Flow(%d): %d came", most, got)
		}
	}
	left(t, "round", n, [2]int{}, [2]int{1, 0}) // 3010 came
}
