package judge

import (
	"cmp"
	"slices"

	"girder/net"
	"girder/record"
	"girder/vector"
)

// spot: a bridge's port.
type spot struct {
	bridge, port int
}

// view of a net: its bridges, and its open cables.
type view struct {
	states []record.State
	open   [][2]spot     // what each open cable joins
	far    map[spot]spot // from each port that an open cable joins, the one at its other end
}

// see a net.
func see(n *net.Net) *view {
	v := &view{far: map[spot]spot{}}
	bridges, cables := n.Size()
	for i := range bridges {
		v.states = append(v.states, n.State(i))
	}
	for i := range cables {
		c, up := n.Cable(i)
		a, b := spot{c.A, c.PortA}, spot{c.B, c.PortB}
		if up && v.port(a).On() && v.port(b).On() {
			v.open = append(v.open, [2]spot{a, b})
			v.far[a], v.far[b] = b, a
		}
	}
	return v
}

// port at a spot.
func (v *view) port(at spot) record.Port {
	return v.states[at.bridge].Ports[at.port-1]
}

// id of the port at a spot.
func (v *view) id(at spot) uint16 {
	return v.port(at).ID(at.port)
}

// ways of all bridges to their roots: Root and Cost alone of each.
func (v *view) ways() []vector.Vector {
	var l []vector.Vector
	for _, s := range v.states {
		l = append(l, vector.Vector{Root: s.ID})
	}
	for range l { // no way has more cables than there are bridges
		for _, c := range v.open {
			v.pull(l, c[0], c[1])
			v.pull(l, c[1], c[0])
		}
	}
	return l
}

// pull a bridge's way to that by one of its ports, where this is better.
func (v *view) pull(ways []vector.Vector, at, far spot) {
	if w := ways[far.bridge].Plus(v.port(at).Cost); w.Better(ways[at.bridge]) {
		ways[at.bridge] = w
	}
}

// ports of a bridge as they should be.
func (v *view) ports(bridge int, ways []vector.Vector) []Port {
	root := v.rootPort(bridge, ways)
	var l []Port
	for i, p := range v.states[bridge].Ports {
		at := spot{bridge, i + 1}
		far, open := v.far[at]
		role := record.Alternate
		switch {
		case !p.On():
			role = record.Disabled
		case at == root:
			role = record.Root
		case !open || v.tells(at, ways).Better(v.tells(far, ways)):
			role = record.Designated
		}
		l = append(l, Port{role, role == record.Root || role == record.Designated})
	}
	return l
}

// tells: what the port at a spot should tell.
func (v *view) tells(at spot, ways []vector.Vector) vector.Vector {
	w := ways[at.bridge]
	w.Bridge, w.Port = v.states[at.bridge].ID, v.id(at)
	return w
}

// rootPort of a bridge; none, where it is a root.
func (v *view) rootPort(bridge int, ways []vector.Vector) spot {
	if ways[bridge].Root == v.states[bridge].ID {
		return spot{}
	}
	l := v.joined(bridge)
	var heard []vector.Vector
	for _, at := range l {
		heard = append(heard, v.tells(v.far[at], ways).Plus(v.port(at).Cost))
	}
	return l[vector.Best(heard...)]
}

// joined ports of a bridge by open cables, by their IDs: of equal vectors the first one's is the best.
func (v *view) joined(bridge int) []spot {
	var l []spot
	for i := range v.states[bridge].Ports {
		at := spot{bridge, i + 1}
		if _, open := v.far[at]; open {
			l = append(l, at)
		}
	}
	slices.SortFunc(l, func(a, b spot) int { return cmp.Compare(v.id(a), v.id(b)) })
	return l
}
