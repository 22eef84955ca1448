package tree

import (
	"girder/bpdu"
	"girder/info"
	"girder/record"
	"girder/role"
	"girder/state"
	"girder/vector"
)

// act on a bridge: its state, as it becomes, and what is sent by that.
type act struct {
	record.State
	Out
}

// begin with a state that stays as it was.
func begin(s record.State) *act {
	return &act{State: s.Clone()}
}

func (a *act) end() (record.State, Out) {
	return a.State, a.Out
}

// roles as PDUs tell them.
var roles = [...]uint8{
	record.Disabled:   bpdu.Unknown,
	record.Alternate:  bpdu.Other,
	record.Backup:     bpdu.Other,
	record.Root:       bpdu.Root,
	record.Designated: bpdu.Designated,
}

// The kinds of marks that ports get while all of them are gone through.
const (
	opened = iota // it forwards by that
	anew          // it has something to tell anew
	kinds
)

// marks: the places of the ports that were marked, kind by kind, rising.
type marks [kinds][]int

func (m *marks) mark(kind, at int, is bool) {
	if is {
		m[kind] = append(m[kind], at)
	}
}

// each port that has a mark of a kind is done something to.
func (m *marks) each(kind int, do func(at int)) {
	for _, at := range m[kind] {
		do(at)
	}
}

// choose the roles of all ports.
func (a *act) choose() {
	var l []role.Port
	for i, p := range a.Ports {
		l = append(l, role.Port{On: p.On(), Heard: p.Info == record.Heard, Vector: p.Vector, Cost: p.Cost, ID: p.ID(i + 1)})
	}
	c := role.Choose(a.ID, l)
	var m marks
	for i, p := range a.Ports {
		is, tells, opens := state.Assume(p, c.Roles[i], c.Tells[i], a.Config)
		a.Ports[i] = is
		m.mark(anew, i, tells)
		m.mark(opened, i, opens)
	}
	// a change is known ahead of what is told, so that it is told
	m.each(opened, a.changed)
	m.each(anew, a.tell)
}

// step of all ports' clocks.
func (a *act) step() {
	var m marks
	for i, p := range a.Ports {
		is, opens := state.Step(p, a.Config)
		a.Ports[i] = is
		m.mark(opened, i, opens)
	}
	m.each(opened, a.changed)
}

// fade: a tick of what was heard, and of what changed.
func (a *act) fade() {
	for i, p := range a.Ports {
		p, _ = info.Fade(p)
		if p.Change > 0 {
			p.Change--
		}
		a.Ports[i] = p
	}
}

// beat: what is sent from time to time.
func (a *act) beat() {
	for i, p := range a.Ports {
		switch {
		case !p.On():
		case p.Role == record.Designated:
			a.tell(i)
		case p.Role == record.Root && p.Change > 0:
			a.send(i, bpdu.PDU{Topology: true})
		}
	}
}

// inner: is a port on, with a bridge expected behind it?
func inner(p record.Port) bool {
	return p.On() && !state.Edge(p)
}

// linked: does a port's role join it to the tree?
func linked(p record.Port) bool {
	return p.Role == record.Root || p.Role == record.Designated
}

// alert: a port tells for some time that the topology changed.
func (a *act) alert(at int) {
	a.Ports[at].Change = 2 * a.Hello
}

// changed: the topology changed at a port.
func (a *act) changed(at int) {
	if state.Edge(a.Ports[at]) {
		return
	}
	a.alert(at)
	for i, p := range a.Ports {
		if i == at || !inner(p) {
			continue
		}
		if linked(p) {
			a.alert(i)
		}
		a.Flush = append(a.Flush, i+1)
	}
}

// spread what was heard at a port: that the topology changed somewhere behind it.
func (a *act) spread(at int) {
	for i, p := range a.Ports {
		if i != at && inner(p) && linked(p) {
			a.alert(i)
			a.Flush = append(a.Flush, i+1)
		}
	}
}

// age of what a bridge tells: 0 of the root.
func (a *act) age() int {
	for _, p := range a.Ports {
		if p.Role == record.Root {
			return p.Age + 1
		}
	}
	return 0
}

// tell the vector of a port that is designated.
func (a *act) tell(at int) {
	p := a.Ports[at]
	a.send(at, bpdu.PDU{
		Topology:   p.Change > 0,
		Proposal:   p.State != record.Forwarding,
		Learning:   p.State == record.Learning || p.State == record.Forwarding,
		Forwarding: p.State == record.Forwarding,
		Age:        uint16(a.age()),
		MaxAge:     uint16(a.MaxAge),
		Hello:      uint16(a.Hello),
		Delay:      uint16(a.Delay),
	})
}

// send a PDU at a port, with its role and its vector.
func (a *act) send(at int, p bpdu.PDU) {
	from := a.Ports[at]
	p.Kind, p.Role = bpdu.Rapid, roles[from.Role]
	p.Root, p.Cost, p.Bridge, p.Port = from.Vector.Root, from.Vector.Cost, from.Vector.Bridge, from.Vector.Port
	a.Told = append(a.Told, Told{at + 1, p})
}

// told vector of a PDU.
func told(p bpdu.PDU) vector.Vector {
	return vector.Vector{Root: p.Root, Cost: p.Cost, Bridge: p.Bridge, Port: p.Port}
}

// hear a PDU at a port that is on.
func (a *act) hear(at int, p bpdu.PDU) {
	a.Ports[at].Plain = false
	if p.Kind == bpdu.Change || p.Topology {
		a.spread(at)
	}
	switch {
	case p.Kind == bpdu.Change:
	case p.Kind == bpdu.Rapid && (p.Role == bpdu.Root || p.Role == bpdu.Other):
		a.agree(at, p)
	default:
		a.take(at, p)
	}
}

// agree, if the other end agrees to what the port tells.
func (a *act) agree(at int, p bpdu.PDU) {
	was := a.Ports[at]
	if !p.Agreement || was.Role != record.Designated || told(p) != was.Vector {
		return
	}
	is, opens := state.Agree(was)
	a.Ports[at] = is
	if opens {
		a.changed(at)
	}
}

// take what is told at a port.
func (a *act) take(at int, p bpdu.PDU) {
	is, what := info.Hear(a.Ports[at], told(p), int(p.Age), a.Config)
	a.Ports[at] = is
	switch what {
	case info.Worse:
		if is.Role == record.Designated {
			a.tell(at)
		}
	case info.Same, info.Taken:
		a.choose()
		if p.Proposal {
			a.answer(at)
		}
	}
}

// answer a proposal: the other end may forward, as no other port of this bridge leads round it.
func (a *act) answer(at int) {
	switch a.Ports[at].Role {
	case record.Root, record.Alternate, record.Backup:
	default:
		return
	}
	for i, p := range a.Ports {
		if i != at {
			a.Ports[i] = state.Block(p, a.Config)
		}
	}
	a.send(at, bpdu.PDU{Agreement: true})
}
