package valid

import (
	"girder/api"
	"girder/record"
	"girder/vector"
)

const maxPriority = 15 // of a port

// portFault of a port by itself, in a bridge of such a config.
func portFault(c record.Config) func(p record.Port) api.Errno {
	return func(p record.Port) api.Errno {
		switch {
		case !p.Good():
			return api.ErrVlan
		case !within(p.Cost, 1, api.MaxCost), !within(p.Priority, 0, maxPriority):
			return api.ErrRange
		case !goodKinds(p):
			return api.ErrKind
		case !goodMode(p):
			return api.ErrMode
		case !goodInfo(p, c), !goodWait(p, c), !within(p.Change, 0, 2*c.Hello):
			return api.ErrNum
		}
		return api.OK
	}
}

// goodKinds: are its role, its state and its info some that there are?
func goodKinds(p record.Port) bool {
	return within(p.Role, record.Disabled, record.Designated) &&
		within(p.State, record.Discarding, record.Forwarding) &&
		within(p.Info, record.None, record.Heard)
}

// goodMode: does its role go with all else of how it is?
func goodMode(p record.Port) bool {
	switch p.Role {
	case record.Disabled:
		return idle(p)
	case record.Designated:
		return p.On() && p.Info == record.Mine && (!p.Agreed || p.State == record.Forwarding)
	case record.Root:
		return p.On() && p.Info == record.Heard && !p.Agreed && p.State == record.Forwarding
	}
	return p.On() && p.Info == record.Heard && !p.Agreed && p.State == record.Discarding
}

// idle: does it take no part, as far as its flags and its kinds say so?
func idle(p record.Port) bool {
	return !p.Plain && !p.Agreed && p.State == record.Discarding && p.Info == record.None && p.Change == 0
}

// goodInfo: do its vector, its age and its life go with where the vector is from?
func goodInfo(p record.Port, c record.Config) bool {
	switch p.Info {
	case record.None:
		return p.Vector == (vector.Vector{}) && p.Age == 0 && p.Life == 0
	case record.Mine:
		return p.Age == 0 && p.Life == 0
	}
	return within(p.Age, 0, c.MaxAge-1) && within(p.Life, 1, 3*c.Hello)
}

// goodWait: does it wait just where it is to forward later?
func goodWait(p record.Port, c record.Config) bool {
	if p.Role == record.Designated && p.State != record.Forwarding {
		return within(p.Wait, 1, c.Delay)
	}
	return p.Wait == 0
}
