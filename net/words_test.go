package net_test

import (
	"slices"
	"testing"

	"girder/addr"
	"girder/api"
	"girder/bridge"
	"girder/frame"
	"girder/image"
	"girder/net"
	"girder/record"
	"girder/vlan"
)

// act on a bridge.
type act func(b *bridge.Bridge) ([]bridge.Sent, api.Errno)

// words: a net that does what the chapter says, in plain lists.
type words struct {
	bridges []*bridge.Bridge
	cables  []net.Cable
	up      []bool
	way     [][2][]string // what is under way in each cable, from each end
	full    int           // how many were lost as too many were under way
}

// say a net, of states and cables of which nothing is wrong.
func say(l []record.State, cables []net.Cable) *words {
	w := &words{cables: cables, up: slices.Repeat([]bool{true}, len(cables)), way: make([][2][]string, len(cables))}
	for i, s := range l {
		var up []int
		for _, c := range cables {
			if c.A == i {
				up = append(up, c.PortA)
			}
			if c.B == i {
				up = append(up, c.PortB)
			}
		}
		b, sent := started(s, up...)
		w.bridges = append(w.bridges, b)
		w.send(i, sent)
	}
	return w
}

// send what a bridge sends.
func (w *words) send(i int, l []bridge.Sent) {
	for _, s := range l {
		for c, x := range w.cables {
			from := slices.Index([]bool{x.A == i && x.PortA == s.Port, x.B == i && x.PortB == s.Port}, true)
			switch {
			case from < 0 || !w.up[c]:
			case len(w.way[c][from]) < 1000:
				w.way[c][from] = append(w.way[c][from], s.Data)
			default:
				w.full++
			}
		}
	}
}

// take the first text that is under way.
func (w *words) take(cable, from int) (string, bool) {
	if cable < 0 || cable >= len(w.cables) || from < 0 || from > 1 || len(w.way[cable][from]) == 0 {
		return "", false
	}
	s := w.way[cable][from][0]
	w.way[cable][from] = slices.Clone(w.way[cable][from][1:])
	return s, true
}

func (w *words) do(i int, a act) api.Errno {
	if i < 0 || i >= len(w.bridges) {
		return api.ErrNone
	}
	l, err := a(w.bridges[i])
	w.send(i, l)
	return err
}

func (w *words) come(cable, from int) bool {
	s, ok := w.take(cable, from)
	if ok {
		x := w.cables[cable]
		to, port := x.B, x.PortB
		if from == 1 {
			to, port = x.A, x.PortA
		}
		w.do(to, func(b *bridge.Bridge) ([]bridge.Sent, api.Errno) { return b.Frame(port, s) })
	}
	return ok
}

func (w *words) cut(cable int, up bool) api.Errno {
	if cable < 0 || cable >= len(w.cables) {
		return api.ErrNone
	}
	if w.up[cable] == up {
		return api.OK
	}
	w.up[cable], w.way[cable] = up, [2][]string{}
	x := w.cables[cable]
	for _, at := range [][2]int{{x.A, x.PortA}, {x.B, x.PortB}} {
		w.do(at[0], func(b *bridge.Bridge) ([]bridge.Sent, api.Errno) {
			return b.Switch(at[1], up, b.State().Ports[at[1]-1].Admin)
		})
	}
	return api.OK
}

func (w *words) upgrade(i int, version uint8) api.Errno {
	switch {
	case i < 0 || i >= len(w.bridges):
		return api.ErrNone
	case version < 1 || version > 3:
		return api.ErrKind
	case version < 3:
		w.bridges[i] = bridge.Load(image.Lift(w.bridges[i].State(), version))
		w.send(i, w.bridges[i].Start())
	}
	return api.OK
}

func (w *words) flow(most int) int {
	came := 0
	for before := -1; before < came; {
		before = came
		for c := range w.cables {
			for from := range 2 {
				if came < most && w.come(c, from) {
					came++
				}
			}
		}
	}
	return came
}

// draw of numbers that come one behind the other, none by chance.
type draw uint64

// next number below a bound.
func (d *draw) next(bound int) int {
	*d = *d*6364136223846793005 + 1442695040888963407
	return int(uint64(*d>>33) % uint64(bound))
}

// near a list's numbers: one of them, or at times one beside them.
func (d *draw) near(n int) int {
	if n == 0 || d.next(20) == 0 {
		return n*d.next(2) - d.next(2)
	}
	return d.next(n)
}

// drawn net: states and cables.
func (d *draw) drawn() ([]record.State, []net.Cable) {
	var l []record.State
	var free [][2]int
	for i := range 1 + d.next(5) {
		s := state(addr.ID(10*d.next(9)+i), 1+d.next(6))
		s.Hello, s.Delay = 1+d.next(2), 1+d.next(3)
		for p := range s.Ports {
			at := d.next(len(free) + 1)
			free = slices.Insert(free, at, [2]int{i, p + 1})
			s.Ports[p].Edge, s.Ports[p].Admin, s.Ports[p].Up = d.next(8) == 0, d.next(8) > 0, d.next(2) == 0
		}
		l = append(l, s)
	}
	var cables []net.Cable
	for len(free) > 1 {
		a, b := free[0], free[1]
		free = free[2:]
		if a[0] != b[0] && d.next(8) > 0 {
			cables = append(cables, net.Cable{A: a[0], PortA: a[1], B: b[0], PortB: b[1]})
		}
	}
	return l, cables
}

// acts on a bridge, of most kinds.
func (d *draw) acts() act {
	port, up, admin := 1+d.next(6), d.next(3) > 0, d.next(4) > 0
	data, _ := frame.Encode(frame.Frame{Src: addr.FromInt(uint64(4 + 2*d.next(5))), Dst: addr.FromInt(uint64(nowhere + d.next(9))), Type: 0x800})
	p := record.Port{Cost: uint32(d.next(9)), Priority: d.next(17)}
	p.Pvid = uint16(d.next(3))
	return []act{
		func(b *bridge.Bridge) ([]bridge.Sent, api.Errno) { return b.Switch(port, up, admin) },
		func(b *bridge.Bridge) ([]bridge.Sent, api.Errno) { return b.Frame(port, data) },
		func(b *bridge.Bridge) ([]bridge.Sent, api.Errno) { return b.SetPort(port, p) },
		func(b *bridge.Bridge) ([]bridge.Sent, api.Errno) {
			return nil, b.SetVlan(vlan.Vlan{Vid: 2, Members: 7})
		},
		func(b *bridge.Bridge) ([]bridge.Sent, api.Errno) { return nil, b.DropVlan(2) },
		func(b *bridge.Bridge) ([]bridge.Sent, api.Errno) {
			return []bridge.Sent{{Port: port - 1, Data: data}, {Port: port, Data: "x"}, {Port: port + 1, Data: data}}, api.ErrFull
		},
		func(b *bridge.Bridge) ([]bridge.Sent, api.Errno) {
			for range 700 {
				b.Tick()
			}
			return slices.Repeat(b.Tick(), 300), api.OK
		},
	}[d.next(7)]
}

// event in a net, and in what is said of it: what both answer.
func (d *draw) event(n *net.Net, w *words) (got, want any) {
	i, c, from := d.near(len(w.bridges)), d.near(len(w.cables)), d.near(2)
	switch d.next(12) {
	case 0:
		up := d.next(3) > 0
		return n.Cut(c, up), w.cut(c, up)
	case 1:
		version := uint8(d.next(5))
		return n.Upgrade(i, version), w.upgrade(i, version)
	case 2:
		_, lost := w.take(c, from)
		return n.Lose(c, from), lost
	case 3, 4:
		a := d.acts()
		return n.Do(i, a), w.do(i, a)
	case 5, 6, 7:
		most := d.next(60) - 3
		return n.Flow(most), w.flow(most)
	case 8, 9:
		return n.Come(c, from), w.come(c, from)
	}
	return n.Tick(i), w.do(i, func(b *bridge.Bridge) ([]bridge.Sent, api.Errno) { return b.Tick(), api.OK })
}

// alike: a net is as is said of it.
func alike(t *testing.T, n *net.Net, w *words) {
	t.Helper()
	if bridges, cables := n.Size(); bridges != len(w.bridges) || cables != len(w.cables) {
		t.Fatalf("Size = %d, %d", bridges, cables)
	}
	for i, b := range w.bridges {
		is(t, "said", n, i, b.State())
	}
	for i, want := range w.cables {
		if c, up := n.Cable(i); c != want || up != w.up[i] {
			t.Fatalf("Cable(%d) = %+v, %v, want %+v, %v", i, c, up, want, w.up[i])
		}
	}
}

// P27.1, P27.2, P27.3: long rows of calls; nets that are held against the chapter's plain words.
func TestWords(t *testing.T) {
	full, came := 0, 0
	for seed := range 300 {
		d := draw(seed)
		l, cables := d.drawn()
		n, w := made(t, l, cables...), say(l, cables)
		for range 60 {
			alike(t, n, w)
			got, want := d.event(n, w)
			if got != want {
				t.Fatalf("seed %d: is %v, want %v", seed, got, want)
			}
			if k, ok := got.(int); ok {
				came += k
			}
		}
		alike(t, n, w)
		var under [][2]int
		for _, x := range w.way {
			under = append(under, [2]int{len(x[0]), len(x[1])})
		}
		full += w.full
		left(t, "said", n, under...)
	}
	if full < 300 || came < 10000 {
		t.Errorf("only %d too many, %d came", full, came)
	}
}
