package script

import (
	"math"
	"strconv"

	"girder/addr"
	"girder/api"
	"girder/bridge"
	"girder/classify"
	"girder/frame"
	"girder/net"
	"girder/ports"
	"girder/record"
	"girder/report"
	"girder/vlan"
)

const (
	maxTicks   = 1000  // of one line
	tickFrames = 10000 // that come ahead of a tick, at most
	firstVid   = 1     // the VLAN of all ports
	frameType  = 2048
	frameData  = "data"
)

// verb: what a line begins with.
type verb struct {
	numbers int  // so many stand behind it
	notes   bool // it notes, or starts what is noted; others ask for a net
	do      func(s *Script, n []int) []string
}

// verbs by their words.
func verbs() map[string]verb {
	return map[string]verb{
		"bridge":  {3, true, (*Script).bridge},
		"cable":   {4, true, (*Script).cable},
		"cost":    {3, true, (*Script).cost},
		"start":   {0, true, (*Script).start},
		"tick":    {1, false, (*Script).tick},
		"flow":    {1, false, (*Script).flow},
		"cut":     {1, false, func(s *Script, n []int) []string { return told(s.net.Cut(n[0], false)) }},
		"join":    {1, false, func(s *Script, n []int) []string { return told(s.net.Cut(n[0], true)) }},
		"lose":    {2, false, func(s *Script, n []int) []string { return found(s.net.Lose(n[0], n[1])) }},
		"come":    {2, false, func(s *Script, n []int) []string { return found(s.net.Come(n[0], n[1])) }},
		"upgrade": {2, false, (*Script).upgrade},
		"frame":   {4, false, (*Script).frame},
		"show":    {1, false, (*Script).show},
		"net":     {0, false, func(s *Script, _ []int) []string { return report.Net(s.net) }},
	}
}

// found: what is told where there was one, or was none.
func found(is bool) []string {
	if !is {
		return told(api.ErrNone)
	}
	return told(api.OK)
}

// bridge is noted: its number, its priority, how many ports.
func (s *Script) bridge(n []int) []string {
	switch {
	case n[0] > math.MaxUint16 || n[1] > math.MaxUint16 || n[2] > api.MaxPorts:
		return told(api.ErrRange)
	case len(s.bridges) >= api.MaxNodes:
		return told(api.ErrFull)
	}
	id := addr.MakeID(uint16(n[1]), addr.FromInt(uint64(n[0])))
	s.bridges = append(s.bridges, noted(id, n[2]))
	return told(api.OK)
}

// noted bridge's state, of so many ports.
func noted(id addr.ID, size int) record.State {
	s := record.State{Config: record.Config{ID: id, MaxAge: 8, Hello: 1, Delay: 2, Room: 64, Live: 100}}
	var all ports.Set
	for i := range size {
		s.Ports = append(s.Ports, record.Port{Port: classify.Port{Pvid: firstVid}, Cost: 1, Admin: true})
		all = all.With(i + 1)
	}
	s.Vlans = []vlan.Vlan{{Vid: firstVid, Members: all, Untagged: all}}
	return s
}

// cable is noted; the start tells whether it may be.
func (s *Script) cable(n []int) []string {
	if len(s.cables) >= api.MaxLinks {
		return told(api.ErrFull)
	}
	s.cables = append(s.cables, net.Cable{A: n[0], PortA: n[1], B: n[2], PortB: n[3]})
	return told(api.OK)
}

// cost of a noted bridge's port.
func (s *Script) cost(n []int) []string {
	switch {
	case n[0] >= len(s.bridges) || n[1] < 1 || n[1] > len(s.bridges[n[0]].Ports):
		return told(api.ErrNone)
	case n[2] < 1 || n[2] > api.MaxCost:
		return told(api.ErrRange)
	}
	s.bridges[n[0]].Ports[n[1]-1].Cost = uint32(n[2])
	return told(api.OK)
}

// start the net of what is noted.
func (s *Script) start([]int) []string {
	made, err := net.New(s.bridges, s.cables)
	if err == api.OK {
		*s = Script{net: made} // what was noted isn't asked for any more
	}
	return told(err)
}

// tick of all bridges, so often.
func (s *Script) tick(n []int) []string {
	if n[0] > maxTicks {
		return told(api.ErrRange)
	}
	bridges, _ := s.net.Size()
	for range n[0] {
		s.net.Flow(tickFrames)
		for i := range bridges {
			s.net.Tick(i)
		}
	}
	return told(api.OK)
}

// flow of at most so many frames.
func (s *Script) flow(n []int) []string {
	return []string{"ok " + strconv.Itoa(s.net.Flow(n[0]))}
}

// upgrade of a bridge. What is above a byte is no version, and may not become one by being cut to a byte.
func (s *Script) upgrade(n []int) []string {
	return told(s.net.Upgrade(n[0], uint8(min(n[1], math.MaxUint8))))
}

// frame of a station, that comes at a bridge's port.
func (s *Script) frame(n []int) []string {
	f := frame.Frame{Src: addr.FromInt(uint64(n[2])), Dst: addr.FromInt(uint64(n[3])), Type: frameType, Data: frameData}
	data, _ := frame.Encode(f) // such a frame always has bytes
	return told(s.net.Do(n[0], func(b *bridge.Bridge) ([]bridge.Sent, api.Errno) { return b.Frame(n[1], data) }))
}

// show a bridge.
func (s *Script) show(n []int) []string {
	if bridges, _ := s.net.Size(); n[0] >= bridges {
		return told(api.ErrNone)
	}
	return report.Bridge(s.net.State(n[0]))
}
