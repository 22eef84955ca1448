package bridge

import (
	"girder/api"
	"girder/egress"
	"girder/fdb"
	"girder/frame"
	"girder/plane"
	"girder/record"
	"girder/static"
	"girder/vlan"
)

// tables of a bridge: what was laid down, and what was learnt.
type tables struct {
	vlans *vlan.Table
	laid  *static.Table
	seen  *fdb.Fdb
}

// fill tables with what a state lists.
func fill(s record.State) tables {
	t := tables{vlans: vlan.New(), laid: static.New(), seen: fdb.New(s.Room, s.Live)}
	for _, v := range s.Vlans {
		t.vlans.Set(v)
	}
	for _, e := range s.Static {
		t.laid.Set(e)
	}
	for _, e := range s.Fdb {
		t.seen.Put(e)
	}
	return t
}

// list in a state all that the tables hold.
func (t tables) list(s record.State) record.State {
	s.Vlans, s.Static, s.Fdb = t.vlans.List(), t.laid.List(), t.seen.List()
	return s
}

// flush what was seen behind some ports.
func (t tables) flush(l []int) {
	for _, port := range l {
		t.seen.Flush(port)
	}
}

// drop a VLAN, and what was seen in it.
func (t tables) drop(vid uint16) api.Errno {
	err := t.vlans.Drop(vid)
	if err == api.OK {
		t.seen.Drop(vid)
	}
	return err
}

// pass a frame on, that came at one of some ports.
func (t tables) pass(l []record.Port, port int, f frame.Frame) plane.Result {
	return plane.Pass(egress.Tables{Vlans: t.vlans, Static: t.laid, Fdb: t.seen}, l, port, f)
}
