package report_test

import (
	"testing"

	"girder/addr"
	"girder/api"
	"girder/bridge"
	"girder/classify"
	"girder/frame"
	"girder/net"
	"girder/record"
	"girder/report"
	"girder/vlan"
)

// state of a bridge with an ID, and so many ports, of the costs 1, 2 and so on.
func state(id addr.ID, size int, edge bool) record.State {
	s := record.State{Config: record.Config{ID: id, MaxAge: 8, Hello: 1, Delay: 2, Room: 4, Live: 900}}
	for i := range size {
		s.Ports = append(s.Ports, record.Port{Port: classify.Port{Pvid: 1}, Cost: uint32(i + 1), Admin: true, Edge: edge})
	}
	s.Vlans = []vlan.Vlan{{Vid: 1, Members: 0xFFFF, Untagged: 0xFFFF}}
	return s
}

// made net of which nothing is wrong.
func made(t *testing.T, l []record.State, cables ...net.Cable) *net.Net {
	t.Helper()
	n, err := net.New(l, cables)
	if n == nil || err != api.OK {
		t.Fatalf("New: %v, %d", n, err)
	}
	return n
}

// pair of bridges, of two ports each, that one cable joins, or two.
func pair(t *testing.T, cables int, edge bool) *net.Net {
	t.Helper()
	both := []net.Cable{{A: 0, PortA: 1, B: 1, PortB: 2}, {A: 0, PortA: 2, B: 1, PortB: 1}}
	return made(t, []record.State{state(2, 2, edge), state(1, 2, edge)}, both[:cables]...)
}

// rounds: all that is under way comes, and each bridge ticks, so often; then all comes once more.
func rounds(n *net.Net, many int) {
	bridges, _ := n.Size()
	for range many {
		n.Flow(99999)
		for i := range bridges {
			n.Tick(i)
		}
	}
	n.Flow(99999)
}

// judged: the report of a net is its bridges' lines in their order, and these last lines.
func judged(t *testing.T, what string, n *net.Net, last ...string) {
	t.Helper()
	bridges, _ := n.Size()
	var want []string
	for i := range bridges {
		want = append(want, report.Bridge(n.State(i))...)
	}
	tells(t, what, report.Net(n), append(want, last...)...)
}

// P29.2: of nil, and of a net without bridges.
func TestNetNone(t *testing.T) {
	tells(t, "nil", report.Net(nil), "settled yes", "consistent yes", "looping no")
	tells(t, "no bridges", report.Net(made(t, nil)), "settled yes", "consistent yes", "looping no")
}

// P29.2: all lines of a net, spelt out, ahead of what comes and behind it.
func TestNet(t *testing.T) {
	n := pair(t, 1, false)
	tells(t, "booted", report.Net(n),
		"bridge 0 00:00:00:00:00:02 stations 0",
		"port 1 designated discarding cost 1",
		"port 2 disabled discarding cost 2",
		"counts 0 0 0 0 0 0 0 0 0 0 0 0 0 1",
		"bridge 0 00:00:00:00:00:01 stations 0",
		"port 1 disabled discarding cost 1",
		"port 2 designated discarding cost 2",
		"counts 0 0 0 0 0 0 0 0 0 0 0 0 0 1",
		"settled no", "consistent no", "looping no")
	n.Flow(99)
	l := report.Net(n)
	if len(l) != 11 {
		t.Fatalf("settled: %q", l)
	}
	tells(t, "the first one, settled", l[:3], "bridge 0 00:00:00:00:00:02 stations 0", "port 1 root forwarding cost 1", "port 2 disabled discarding cost 2")
	tells(t, "the other one, settled", l[4:7], "bridge 0 00:00:00:00:00:01 stations 0", "port 1 disabled discarding cost 1", "port 2 designated forwarding cost 2")
	tells(t, "settled", l[8:], "settled yes", "consistent yes", "looping no")
	judged(t, "settled", n, "settled yes", "consistent yes", "looping no")
}

// P29.2: what is asked of a net, each with both answers, and none like the other two.
func TestNetAnswers(t *testing.T) {
	n := pair(t, 2, true)
	judged(t, "edges", n, "settled no", "consistent no", "looping yes")
	rounds(n, 9)
	judged(t, "edges that heard", n, "settled yes", "consistent yes", "looping no")
	n = pair(t, 1, false)
	judged(t, "booted", n, "settled no", "consistent no", "looping no")
	n.Come(0, 1)
	judged(t, "heard, but not agreed", n, "settled no", "consistent yes", "looping no")
	n.Flow(99)
	p := n.State(1).Ports[1]
	p.Priority = 5
	n.Do(1, func(b *bridge.Bridge) ([]bridge.Sent, api.Errno) { return b.SetPort(2, p) })
	judged(t, "told, but not heard", n, "settled yes", "consistent no", "looping no")
}

// P29.2: bridges in the order of their numbers, not of their IDs; stations that were learnt are counted where they were.
func TestNetOrder(t *testing.T) {
	var l []record.State
	for i, id := range []addr.ID{5 << 48, 3, 9, 1, 8, 2, 7, 4} {
		l = append(l, state(id, i, false))
	}
	n := made(t, l, net.Cable{A: 7, PortA: 7, B: 6, PortB: 1}, net.Cable{A: 6, PortA: 2, B: 1, PortB: 1})
	rounds(n, 9)
	data, _ := frame.Encode(frame.Frame{Src: addr.FromInt(4), Dst: addr.FromInt(6), Type: 0x800})
	n.Do(6, func(b *bridge.Bridge) ([]bridge.Sent, api.Errno) { return b.Frame(2, data) })
	n.Flow(99)
	judged(t, "eight", n, "settled yes", "consistent yes", "looping no")
	at := 0
	got := report.Net(n)
	for i, want := range []string{"5 00:00:00:00:00:00 stations 0", "0 00:00:00:00:00:03 stations 0", "0 00:00:00:00:00:09 stations 0", "0 00:00:00:00:00:01 stations 0", "0 00:00:00:00:00:08 stations 0", "0 00:00:00:00:00:02 stations 0", "0 00:00:00:00:00:07 stations 1", "0 00:00:00:00:00:04 stations 1"} {
		if at >= len(got) || got[at] != "bridge "+want {
			t.Fatalf("the line %d of bridge %d is not %s: %q", at, i, want, got)
		}
		at += 2 + i
	}
}

// P29.2: nothing of a net is otherwise by a report, and what is under way stays so; an answer is new memory.
func TestNetKeepsNothing(t *testing.T) {
	n, m := pair(t, 2, false), pair(t, 2, false)
	clear(report.Net(n))
	for range 3 {
		tells(t, "told once more", report.Net(n), report.Net(m)...)
	}
	if a, b := n.Flow(999), m.Flow(999); a != b || a < 4 {
		t.Errorf("%d under way, want %d", a, b)
	}
	rounds(n, 5)
	rounds(m, 5)
	for i := range 2 {
		if !record.Same(n.State(i), m.State(i)) {
			t.Errorf("bridge %d is %+v, want %+v", i, n.State(i), m.State(i))
		}
	}
}
