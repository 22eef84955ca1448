package judge_test

import (
	"slices"
	"testing"

	"girder/addr"
	"girder/api"
	"girder/bridge"
	"girder/judge"
	"girder/net"
	"girder/record"
	"girder/vector"
)

// lane along a cable from one bridge's port to another one's.
type lane struct {
	at, port, to, far int
}

// words: a net, as the chapter's plain words see it.
type words struct {
	l     []record.State
	lanes []lane // of the open cables, both ways
}

// look at a net.
func look(n *net.Net) words {
	var w words
	bridges, cables := n.Size()
	for i := range bridges {
		w.l = append(w.l, n.State(i))
	}
	for i := range cables {
		c, up := n.Cable(i)
		a, b := w.l[c.A].Ports[c.PortA-1], w.l[c.B].Ports[c.PortB-1]
		if up && a.Up && a.Admin && b.Up && b.Admin {
			w.lanes = append(w.lanes, lane{c.A, c.PortA, c.B, c.PortB}, lane{c.B, c.PortB, c.A, c.PortA})
		}
	}
	return w
}

// port at a lane's beginning.
func (w words) port(x lane) record.Port {
	return w.l[x.at].Ports[x.port-1]
}

// walk all ways from a bridge that go by no bridge twice: the least sum of costs to each bridge that they lead to.
func (w words) walk(at int, sum uint64, gone []int, least map[int]uint64) {
	if was, ok := least[at]; !ok || sum < was {
		least[at] = sum
	}
	for _, x := range w.lanes {
		if x.at == at && !slices.Contains(gone, x.to) {
			w.walk(x.to, sum+uint64(w.port(x).Cost), append(gone[:len(gone):len(gone)], x.to), least)
		}
	}
}

// root of a bridge, and its cost.
func (w words) root(i int) (addr.ID, uint64) {
	least := map[int]uint64{}
	w.walk(i, 0, []int{i}, least)
	id, cost := w.l[i].ID, uint64(0)
	for to, sum := range least {
		if w.l[to].ID < id {
			id, cost = w.l[to].ID, sum
		}
	}
	return id, cost
}

// told at a lane's beginning, as numbers in the order in which they count.
func (w words) told(x lane) []uint64 {
	id, cost := w.root(x.at)
	return []uint64{uint64(id), cost, uint64(w.l[x.at].ID), uint64(w.id(x))}
}

// id of the port at a lane's beginning.
func (w words) id(x lane) int {
	return w.port(x).Priority*4096 + x.port
}

// back along a lane.
func back(x lane) lane {
	return lane{x.to, x.far, x.at, x.port}
}

// rootPort of a bridge; 0, where it is a root.
func (w words) rootPort(i int) int {
	if id, _ := w.root(i); id == w.l[i].ID {
		return 0
	}
	var best []uint64
	port := 0
	for _, x := range w.lanes {
		if x.at != i {
			continue
		}
		heard := w.told(back(x))
		heard[1] += uint64(w.port(x).Cost)
		if heard = append(heard, uint64(w.id(x))); best == nil || slices.Compare(heard, best) < 0 {
			best, port = heard, x.port
		}
	}
	return port
}

// role that a port should have.
func (w words) role(i, port, root int) int {
	if p := w.l[i].Ports[port-1]; !p.Up || !p.Admin {
		return record.Disabled
	}
	if port == root {
		return record.Root
	}
	for _, x := range w.lanes {
		if x.at == i && x.port == port && slices.Compare(w.told(x), w.told(back(x))) > 0 {
			return record.Alternate
		}
	}
	return record.Designated
}

// expect: how all bridges should be.
func (w words) expect() []judge.Bridge {
	var l []judge.Bridge
	for i, s := range w.l {
		id, cost := w.root(i)
		root := w.rootPort(i)
		var roles []int
		for p := range s.Ports {
			roles = append(roles, w.role(i, p+1, root))
		}
		l = append(l, of(id, uint32(cost), roles...))
	}
	return l
}

// settled: are all as they should be?
func (w words) settled() bool {
	for i, b := range w.expect() {
		for p, want := range b.Ports {
			is := w.l[i].Ports[p]
			if is.Role != want.Role || (is.State == record.Forwarding) != want.Forward {
				return false
			}
		}
	}
	return true
}

// consistent: has each cable one designated end, that the other one heard?
func (w words) consistent() bool {
	good := 0
	for _, x := range w.lanes {
		a, b := w.port(x), w.port(back(x))
		if a.Role == record.Designated && b.Role != record.Designated && b.Info == record.Heard && b.Vector == a.Vector {
			good++
		}
	}
	return 2*good == len(w.lanes)
}

// cycle: are more forwarding cables there than a forest has?
func (w words) cycle() bool {
	trees, cables := len(w.l), 0
	groups := make([]int, len(w.l))
	for i := range groups {
		groups[i] = i
	}
	for _, x := range w.lanes {
		if w.port(x).State != record.Forwarding || w.port(back(x)).State != record.Forwarding {
			continue
		}
		cables++
		a, b := groups[x.at], groups[x.to]
		if a != b {
			trees--
		}
		for i, g := range groups {
			if g == b {
				groups[i] = a
			}
		}
	}
	return cables/2 > len(w.l)-trees
}

// low: has no port a vector of such a cost that nothing is promised of it?
func (w words) low() bool {
	for _, s := range w.l {
		if slices.ContainsFunc(s.Ports, func(p record.Port) bool { return p.Vector.Cost >= 1<<31 }) {
			return false
		}
	}
	return true
}

// draw of numbers that come one behind the other, none by chance.
type draw uint64

// next number below a bound.
func (d *draw) next(bound int) int {
	*d = *d*6364136223846793005 + 1442695040888963407
	return int(uint64(*d>>33) % uint64(bound))
}

// states of so many bridges, all of one config but for their IDs; their ports are made by a function.
func (d *draw) states(n, size int, c record.Config, port func(p *record.Port)) []record.State {
	var l []record.State
	for i := range n {
		s := state(0, make([]uint32, size)...)
		s.Config = c
		s.ID = addr.ID(uint64(d.next(2))<<48 + uint64(10*d.next(5)+i))
		for p := range s.Ports {
			s.Ports[p].Cost, s.Ports[p].Priority = uint32(1+d.next(4)), d.next(3)
			port(&s.Ports[p])
		}
		l = append(l, s)
	}
	return l
}

// cables between bridges' ports, at most so many.
func (d *draw) cables(l []record.State, most int) []net.Cable {
	var free [][2]int
	for i, s := range l {
		for p := range s.Ports {
			free = slices.Insert(free, d.next(len(free)+1), [2]int{i, p + 1})
		}
	}
	var cables []net.Cable
	for ; len(free) > 1 && len(cables) < most; free = free[2:] {
		if a, b := free[0], free[1]; a[0] != b[0] {
			cables = append(cables, net.Cable{A: a[0], PortA: a[1], B: b[0], PortB: b[1]})
		}
	}
	return cables
}

// wild event: also ports that are switched and set, and vectors that nobody told.
func (d *draw) wild(n *net.Net) {
	bridges, cables := n.Size()
	i, port := d.next(bridges), 1+d.next(4)
	switch d.next(14) {
	case 0:
		up, admin := d.next(4) > 0, d.next(4) > 0
		n.Do(i, func(b *bridge.Bridge) ([]bridge.Sent, api.Errno) { return b.Switch(port, up, admin) })
	case 1:
		p := record.Port{Cost: uint32(1 + d.next(9)), Priority: d.next(16), Edge: d.next(4) == 0}
		p.Pvid = 1
		n.Do(i, func(b *bridge.Bridge) ([]bridge.Sent, api.Errno) { return b.SetPort(port, p) })
	case 2:
		cost := []uint32{0, 5, 1<<31 - 99, 1<<31 - 1}[d.next(4)]
		n.Do(i, told(port, vector.Vector{Root: addr.ID(d.next(50)), Cost: cost, Bridge: addr.ID(d.next(50)), Port: 1}))
	case 3:
		n.Upgrade(i, uint8(1+d.next(3)))
	default:
		d.mild(n, bridges, cables)
	}
}

// mild event: none but what a net's bridges, cables and clocks do.
func (d *draw) mild(n *net.Net, bridges, cables int) {
	i, c, from := d.next(bridges), d.next(max(cables, 1)), d.next(2)
	switch d.next(12) {
	case 0:
		n.Cut(c, d.next(3) > 0)
	case 1:
		n.Lose(c, from)
	case 2, 3, 4:
		n.Come(c, from)
	case 5, 6, 7:
		n.Flow(d.next(40))
	default:
		n.Tick(i)
	}
}

// P28.1, P28.2, P28.3: nets in long rows of events, held against the chapter's plain words; where one is consistent there is no cycle.
func TestWords(t *testing.T) {
	settled, consistent, cycles, many := 0, 0, 0, 0
	for seed := range 250 {
		d := draw(seed)
		c := record.Config{MaxAge: 6 + d.next(6), Hello: 1 + d.next(3), Delay: 1 + d.next(3), Room: 4, Live: 9}
		edges := d.next(4)
		l := d.states(2+d.next(5), 4, c, func(p *record.Port) { p.Edge, p.Admin = d.next(3) < edges, d.next(9) > 0 })
		n := made(t, l, d.cables(l, d.next(13))...)
		for range 40 {
			d.wild(n)
			w := look(n)
			expects(t, "words", n, w.expect()...)
			is := [3]bool{w.settled(), w.consistent(), w.cycle()}
			judged(t, "words", n, is[0], is[1], is[2])
			if is[1] && is[2] && w.low() {
				t.Fatalf("seed %d: consistent, and there is a cycle: %+v", seed, w)
			}
			for at, count := range []*int{&settled, &consistent, &cycles} {
				if is[at] {
					*count++
				}
			}
			if is[1] && len(w.lanes) >= 2*len(w.l) {
				many++
			}
		}
	}
	if min(settled, consistent, cycles, many) < 100 || max(settled, consistent, cycles) > 9000 {
		t.Errorf("%d settled, %d consistent, %d cycles, %d consistent ones of many cables", settled, consistent, cycles, many)
	}
}
