package image_test

import (
	"testing"

	"girder/addr"
	"girder/bridge"
	"girder/classify"
	"girder/fdb"
	"girder/frame"
	"girder/image"
	"girder/ports"
	"girder/record"
	"girder/static"
	"girder/vlan"
)

// lab: three bridges in a ring of their ports 1 and 2; each one's ports 3 and 4 are joined to one another, and a station is at port 5.
type lab struct {
	draw
	bridges [3]*bridge.Bridge
	way     []frameAt // frames that didn't come yet
}

// frameAt a bridge's port.
type frameAt struct {
	bridge, port int
	data         string
}

// newLab of bridges of some settings, all started.
func newLab(seed int) *lab {
	n := &lab{draw: draw(seed)}
	for i := range n.bridges {
		s := record.State{Config: record.Config{ID: addr.ID(5 + n.next(3) + 3*i), MaxAge: 6 + n.next(35), Hello: 1 + n.next(3), Delay: 1 + n.next(4), Room: 1 + n.next(6), Live: 1 + n.next(9)}}
		for range 5 {
			p := record.Port{Port: classify.Port{Pvid: uint16(1 + n.next(2))}, Cost: uint32(1 + n.next(900)), Priority: n.next(16), Edge: n.next(6) == 0, Admin: n.next(9) > 0, Up: n.next(9) > 0}
			s.Ports = append(s.Ports, p)
		}
		s.Vlans = []vlan.Vlan{{Vid: 1, Members: 31, Untagged: 31}, {Vid: 2, Members: 31, Untagged: ports.Set(n.next(32))}}
		n.bridges[i] = bridge.Load(s)
	}
	for i, b := range n.bridges {
		n.send(i, b.Start())
	}
	return n
}

// send what a bridge tells, to where its ports lead; but for what would be a storm.
func (n *lab) send(i int, l []bridge.Sent) {
	for _, s := range l {
		to := map[int]frameAt{1: {(i + 1) % 3, 2, s.Data}, 2: {(i + 2) % 3, 1, s.Data}, 3: {i, 4, s.Data}, 4: {i, 3, s.Data}}
		if at, there := to[s.Port]; there && len(n.way) < 100 {
			n.way = append(n.way, at)
		}
	}
}

// come: some of the frames that are on their way, the first ones first.
func (n *lab) come() {
	for range min(len(n.way), n.next(60)) {
		f := n.way[0]
		n.way = n.way[1:]
		l, _ := n.bridges[f.bridge].Frame(f.port, f.data)
		n.send(f.bridge, l)
	}
}

// event at a bridge.
func (n *lab) event() {
	i := n.next(3)
	b := n.bridges[i]
	mac := addr.FromInt(uint64(2 + 4*n.next(5)))
	switch n.next(12) {
	case 0:
		l, _ := b.Switch(1+n.next(5), n.next(4) > 0, n.next(6) > 0)
		n.send(i, l)
	case 1:
		b.SetStatic(static.Entry{Key: fdb.Key{Vid: uint16(1 + n.next(4)), Mac: mac}, Ports: ports.Set(n.next(32))})
		b.DropStatic(fdb.Key{Vid: uint16(1 + n.next(4)), Mac: mac})
	case 2:
		b.SetVlan(vlan.Vlan{Vid: uint16(1 + n.next(4)), Members: ports.Set(n.next(32))})
		b.DropVlan(uint16(3 + n.next(2)))
	case 3, 4, 5:
		s, _ := frame.Encode(frame.Frame{Src: mac, Dst: addr.FromInt(uint64(2 + 4*n.next(5))), Type: 0x800})
		l, _ := b.Frame(5, s[:len(s)-n.next(9)/8])
		n.send(i, l)
	default:
		for i, b := range n.bridges {
			n.send(i, b.Tick())
		}
	}
	n.come()
}

// P23.1, P23.2, P23.3: states that bridges reach, as images of each version.
func TestCourses(t *testing.T) {
	met := map[[2]int]int{}
	learnt, laid := 0, 0
	for seed := range 120 {
		n := newLab(seed)
		for range 60 {
			n.event()
			for _, b := range n.bridges {
				s := b.State()
				learnt += len(s.Fdb)
				laid += len(s.Static)
				for _, p := range s.Ports {
					met[[2]int{p.Role, p.State}]++
				}
				for version := 1; version <= 3; version++ {
					bothWays(t, "reached", s, version, imageOf(version, words(s)[:has[version]]))
				}
			}
		}
	}
	for _, kind := range [][2]int{{record.Disabled, 0}, {record.Alternate, 0}, {record.Backup, 0}, {record.Root, 2}, {record.Designated, 0}, {record.Designated, 1}, {record.Designated, 2}} {
		if met[kind] < 500 {
			t.Errorf("ports as they were met: %v", met)
		}
	}
	if learnt < 1000 || laid < 1000 {
		t.Errorf("%d entries learnt, %d laid", learnt, laid)
	}
}

// P23.3: a bridge that is loaded with what its image of version 3 tells goes on as the one that wasn't.
func TestGoesOn(t *testing.T) {
	for seed := range 40 {
		n, o := newLab(seed), newLab(seed)
		for range 60 {
			n.event()
			o.event()
			for i, b := range o.bridges {
				img, _ := image.Encode(b.State(), 3)
				s, _, _ := image.Decode(img)
				o.bridges[i] = bridge.Load(s)
				if !record.Same(n.bridges[i].State(), s) {
					t.Fatalf("%+v, and by its image %+v", n.bridges[i].State(), s)
				}
			}
		}
	}
}
