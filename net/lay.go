package net

import (
	"girder/addr"
	"girder/api"
	"girder/record"
)

const ends = 2 // of a cable

// spot: a bridge's port.
type spot struct {
	bridge, port int
}

// end of a cable.
type end struct {
	cable, from int
}

// spots that a cable joins: at its end 0, and at its end 1.
func (c Cable) spots() [ends]spot {
	return [ends]spot{{c.A, c.PortA}, {c.B, c.PortB}}
}

// lay cables between bridges: the end at each port that they join; or what is wrong in these, or those.
func lay(l []record.State, cables []Cable) (map[spot]end, api.Errno) {
	switch {
	case len(l) > api.MaxNodes || len(cables) > api.MaxLinks:
		return nil, api.ErrRange
	case twice(l):
		return nil, api.ErrTwice
	}
	at := map[spot]end{}
	for i, c := range cables {
		for from, s := range c.spots() {
			if _, taken := at[s]; taken || c.A == c.B || !within(l, s) {
				return nil, api.ErrPort
			}
			at[s] = end{i, from}
		}
	}
	return at, api.OK
}

// twice: have two bridges one ID?
func twice(l []record.State) bool {
	ids := map[addr.ID]int{}
	for i, s := range l {
		ids[s.ID] = i
	}
	return len(ids) < len(l)
}

// within: is there such a port of such a bridge?
func within(l []record.State, s spot) bool {
	return s.bridge >= 0 && s.bridge < len(l) && s.port >= 1 && s.port <= len(l[s.bridge].Ports)
}

// wired: a bridge's state, whose links are up just where a cable joins them.
func wired(bridge int, s record.State, at map[spot]end) record.State {
	s = s.Clone()
	for i := range s.Ports {
		_, s.Ports[i].Up = at[spot{bridge, i + 1}]
	}
	return s
}
