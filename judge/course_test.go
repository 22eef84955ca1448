package judge_test

import (
	"testing"

	"girder/addr"
	"girder/api"
	"girder/bridge"
	"girder/fdb"
	"girder/judge"
	"girder/net"
	"girder/record"
	"girder/static"
	"girder/vlan"
)

// settles: in 200 rounds in which nothing else is done, however a net was ahead of them; and it stays so.
func settles(t *testing.T, what string, n *net.Net) {
	t.Helper()
	for i := range 200 {
		round(t, n)
		if judge.Consistent(n) && judge.Cycle(n) {
			t.Fatalf("%s: a cycle behind round %d", what, i+1)
		}
	}
	judged(t, what, n, true, true, false)
	round(t, n)
	judged(t, what, n, true, true, false)
}

// config whose times are the least or the greatest ones that are promised to settle.
func (d *draw) config() record.Config {
	return record.Config{MaxAge: 6 + 5*d.next(2), Hello: 1 + 2*d.next(2), Delay: 1 + 4*d.next(2), Room: 4, Live: 9}
}

// laid: a VLAN or an entry is laid, or one is gone; or the bridge ticks by itself, and often.
func (d *draw) laid() func(b *bridge.Bridge) ([]bridge.Sent, api.Errno) {
	k := fdb.Key{Vid: uint16(1 + d.next(3)), Mac: [6]byte{0, 0, 0, 0, 0, 8}}
	ticks := d.next(50)
	return []func(b *bridge.Bridge) ([]bridge.Sent, api.Errno){
		func(b *bridge.Bridge) ([]bridge.Sent, api.Errno) {
			return nil, b.SetVlan(vlan.Vlan{Vid: k.Vid, Members: 3})
		},
		func(b *bridge.Bridge) ([]bridge.Sent, api.Errno) { return nil, b.DropVlan(k.Vid) },
		func(b *bridge.Bridge) ([]bridge.Sent, api.Errno) { return nil, b.SetStatic(static.Entry{Key: k}) },
		func(b *bridge.Bridge) ([]bridge.Sent, api.Errno) { return nil, b.DropStatic(k) },
		func(b *bridge.Bridge) (l []bridge.Sent, _ api.Errno) {
			for range ticks {
				l = append(l, b.Tick()...)
			}
			return l, api.OK
		},
	}[d.next(5)]
}

// whole bridge's cables are cut, or joined.
func whole(n *net.Net, bridge int, up bool) {
	_, cables := n.Size()
	for c := range cables {
		if x, _ := n.Cable(c); x.A == bridge || x.B == bridge {
			n.Cut(c, up)
		}
	}
}

// event of all that a net may have seen ahead of the rounds in which it settles.
func (d *draw) event(n *net.Net) {
	bridges, cables := n.Size()
	i := d.next(bridges)
	switch d.next(20) {
	case 0:
		n.Upgrade(i, uint8(d.next(5)))
	case 1:
		n.Do(i, d.laid())
	case 2:
		whole(n, i, d.next(2) == 0)
	default:
		d.mild(n, bridges, cables)
	}
}

// P28.4: nets of at most 6 bridges, behind whatever was done with them.
func TestSettles(t *testing.T) {
	for seed := range 120 {
		d := draw(seed)
		l := d.states(1+d.next(6), 1+d.next(7), d.config(), func(p *record.Port) { p.Priority = d.next(16) })
		n := made(t, l, d.cables(l, d.next(25))...)
		for range d.next(300) {
			d.event(n)
		}
		settles(t, "behind events", n)
	}
}

// six bridges of a config and of such costs, joined where they should be; the least ID is that of the bridge named.
func six(t *testing.T, c record.Config, cost uint32, root int, joined func(a, b int) bool) *net.Net {
	t.Helper()
	var l []record.State
	for i := range 6 {
		s := state(0, cost, cost, cost, cost, cost)
		s.Config = c
		s.ID = addr.ID(10 + (i+6-root)%6)
		l = append(l, s)
	}
	var cables []net.Cable
	used := [6]int{}
	for a := range 6 {
		for b := range a {
			if joined(a, b) {
				used[a]++
				used[b]++
				cables = append(cables, net.Cable{A: a, PortA: used[a], B: b, PortB: used[b]})
			}
		}
	}
	return made(t, l, cables...)
}

// P28.4: rows, rings, stars, and all joined, of as many bridges, and with the least and the greatest numbers that are promised; the root goes and comes back.
func TestSettlesSix(t *testing.T) {
	shapes := []func(a, b int) bool{
		func(a, b int) bool { return a-b == 1 },
		func(a, b int) bool { return a-b == 1 || a-b == 5 },
		func(a, b int) bool { return b == 0 },
		func(a, b int) bool { return a-b != 3 },
		func(a, b int) bool { return true },
	}
	for k, joined := range shapes {
		for root := range 6 {
			d := draw(6*k + root)
			n := six(t, d.config(), uint32(1+3*d.next(2)), root, joined)
			settles(t, "booted", n)
			for i, b := range judge.Expect(n) {
				if b.Root != 10 {
					t.Fatalf("bridge %d should be %+v", i, b)
				}
			}
			whole(n, root, false)
			settles(t, "without the root", n)
			whole(n, root, true)
			n.Flow(d.next(30))
			n.Upgrade(d.next(6), uint8(1+d.next(3)))
			settles(t, "with the root again", n)
		}
	}
}

// P28.4: bridges that told more than their cables take, while nothing came.
func TestSettlesFull(t *testing.T) {
	c := record.Config{MaxAge: 6, Hello: 1, Delay: 5, Room: 4, Live: 9}
	n := six(t, c, 4, 3, func(a, b int) bool { return a-b == 1 || a-b == 5 })
	for range 1100 {
		for i := range 6 {
			n.Tick(i)
		}
	}
	if !n.Lose(0, 0) || judge.Settled(n) || judge.Consistent(n) {
		t.Error("nothing came, and it is settled")
	}
	settles(t, "full", n)
}
