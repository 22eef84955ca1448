package plane_test

import (
	"math"
	"slices"
	"strings"
	"testing"

	"girder/addr"
	"girder/api"
	"girder/classify"
	"girder/count"
	"girder/egress"
	"girder/fdb"
	"girder/frame"
	"girder/plane"
	"girder/ports"
	"girder/record"
	"girder/static"
	"girder/vlan"
)

const all = ports.Set(1<<api.MaxPorts - 1)

// The numbers of two stations' addresses, and of a group's that isn't reserved.
const (
	near  = 2
	far   = 4
	group = 0x010203040506
)

// key of a VLAN's number, and an address' number.
func key(vid uint16, n uint64) fdb.Key {
	return fdb.Key{Vid: vid, Mac: addr.FromInt(n)}
}

// tables of these VLANs alone, with room for so many stations.
func tables(t *testing.T, room int, l ...vlan.Vlan) egress.Tables {
	t.Helper()
	x := egress.Tables{Vlans: vlan.New(), Static: static.New(), Fdb: fdb.New(room, 9)}
	for _, v := range l {
		if err := x.Vlans.Set(v); err != api.OK {
			t.Fatalf("Set(%+v) = %d", v, err)
		}
	}
	return x
}

// seen: the station of that key is there, for so long.
func seen(t *testing.T, x egress.Tables, k fdb.Key, port, age int) {
	t.Helper()
	if !x.Fdb.Put(fdb.Entry{Key: k, Port: port, Age: age}) {
		t.Fatalf("no room for %v", k)
	}
}

// bridge of so many ports, all on and forwarding, of the VLAN 1.
func bridge(n int) []record.Port {
	var l []record.Port
	for range n {
		l = append(l, record.Port{Port: classify.Port{Pvid: 1}, Admin: true, Up: true, Role: record.Designated, State: record.Forwarding})
	}
	return l
}

// plain frame from one station to another one, without a tag.
func plain(src, dst uint64) frame.Frame {
	return frame.Frame{Src: addr.FromInt(src), Dst: addr.FromInt(dst), Type: 0x800, Data: "abc"}
}

// tagged frame likewise, with a tag of a VLAN.
func tagged(src, dst uint64, vid uint16) frame.Frame {
	f := plain(src, dst)
	f.Tagged, f.Pcp, f.Dei, f.Vid = true, 3, true, vid
	return f
}

// short form of a frame, to be shown.
func short(f frame.Frame) frame.Frame {
	f.Data = f.Data[:min(len(f.Data), 10)]
	return f
}

// passes: a frame that comes at a port has that result, its sent frames aside, and is sent at those ports.
func passes(t *testing.T, x egress.Tables, l []record.Port, from int, f frame.Frame, want plane.Result, at ...int) plane.Result {
	t.Helper()
	r := plane.Pass(x, l, from, f)
	var got []int
	for _, s := range r.Sent {
		got = append(got, s.Port)
	}
	if r.Why != want.Why || r.Learnt != want.Learnt || r.Evicted != want.Evicted || !slices.Equal(got, at) {
		t.Errorf("Pass at %d of %+v: Why %d, Learnt %v, Evicted %v, at %v; want %+v at %v", from, short(f), r.Why, r.Learnt, r.Evicted, got, want, at)
	}
	return r
}

// stops: a frame that comes at a port isn't learnt from nor sent, and counts as that.
func stops(t *testing.T, x egress.Tables, l []record.Port, from int, f frame.Frame, why int) {
	t.Helper()
	was := x.Fdb.List()
	passes(t, x, l, from, f, plane.Result{Why: why})
	if is := x.Fdb.List(); !slices.Equal(is, was) {
		t.Errorf("at %d learnt from %+v: %+v, was %+v", from, short(f), is, was)
	}
}

// learns: those entries are all.
func learns(t *testing.T, x egress.Tables, want ...fdb.Entry) {
	t.Helper()
	if got := x.Fdb.List(); !slices.Equal(got, want) {
		t.Errorf("learnt: %+v, want %+v", got, want)
	}
}

// entry of the VLAN 1.
func entry(n uint64, port, age int) fdb.Entry {
	return fdb.Entry{Key: key(1, n), Port: port, Age: age}
}

// P19.1, the example: a new station's frame, for one that isn't known, goes to all other ports of its VLAN that forward.
func TestNewStation(t *testing.T) {
	x := tables(t, 9, vlan.Vlan{Vid: 1, Members: 0x1F, Untagged: 2})
	l := bridge(6)
	l[3].State = record.Learning
	f := plain(near, far)
	r := passes(t, x, l, 1, f, plane.Result{Why: count.Sent, Learnt: true}, 2, 3, 5)
	with := f
	with.Tagged, with.Vid = true, 1
	if want := []plane.Sent{{2, f}, {3, with}, {5, with}}; !slices.Equal(r.Sent, want) {
		t.Errorf("sent %+v, want %+v", r.Sent, want)
	}
	learns(t, x, entry(near, 1, 0))
	passes(t, x, l, 2, plain(far, near), plane.Result{Why: count.Sent, Learnt: true}, 1)
	passes(t, x, l, 1, f, plane.Result{Why: count.Sent}, 2)
	learns(t, x, entry(near, 1, 0), entry(far, 2, 0))
}

// P19.1: closed at a port that there isn't.
func TestNoPort(t *testing.T) {
	x := tables(t, 9, vlan.Vlan{Vid: 1, Members: all})
	for size := range 18 {
		for _, from := range []int{0, -1, size + 1, size + 2, 33, 65, 1<<32 + 1, math.MinInt, math.MaxInt} {
			stops(t, x, bridge(size), from, plain(near, far), count.Closed)
			stops(t, x, bridge(size), from, plain(near, 0x0180C2000000), count.Closed)
		}
	}
}

// worst frames: each of a cause of its own by which it would not be sent on.
func worst() []frame.Frame {
	return []frame.Frame{plain(near, far), plain(near, 0x0180C2000001), tagged(near, far, 0), tagged(near, far, 1), tagged(near, far, 8), tagged(near, far, 9)}
}

// P19.1: closed at a port that isn't on, or that discards, whatever else there is.
func TestClosed(t *testing.T) {
	x := tables(t, 9, vlan.Vlan{Vid: 1, Members: all}, vlan.Vlan{Vid: 8})
	for _, accept := range []int{classify.All, classify.Tagged, classify.Untagged} {
		for _, f := range worst() {
			for _, is := range []record.Port{{}, {Up: true}, {Admin: true}, {Up: true, Admin: true}} {
				for state := range 4 {
					if is.On() && state != record.Discarding {
						continue
					}
					l := bridge(3)
					p := &l[1]
					p.Up, p.Admin, p.State = is.Up, is.Admin, state
					p.Accept, p.Filter = accept, true
					stops(t, x, l, 2, f, count.Closed)
				}
			}
		}
	}
}

// P19.1: held, where it is to a reserved address, and not to one beside these; ahead of all that layer 11 says, and of Learning.
func TestHeld(t *testing.T) {
	for last := range uint64(256) {
		for _, state := range []int{record.Learning, record.Forwarding} {
			x := tables(t, 9, vlan.Vlan{Vid: 1, Members: all}, vlan.Vlan{Vid: 8})
			l := bridge(3)
			l[0].State, l[0].Filter = state, true
			dst := 0x0180C2000000 + last
			switch {
			case last < 0x10:
				for _, f := range []frame.Frame{plain(near, dst), tagged(near, dst, 1), tagged(near, dst, 8), tagged(near, dst, 9)} {
					stops(t, x, l, 1, f, count.Held)
				}
				l[0].Accept = classify.Tagged
				stops(t, x, l, 1, plain(near, dst), count.Held)
			case state == record.Learning:
				passes(t, x, l, 1, plain(near, dst), plane.Result{Why: count.Closed, Learnt: true})
			default:
				passes(t, x, l, 1, plain(near, dst), plane.Result{Why: count.Sent, Learnt: true}, 2, 3)
			}
		}
	}
}

// P19.1: what layer 11 doesn't take is neither learnt from nor sent, also at a port that is learning.
func TestRefused(t *testing.T) {
	for _, state := range []int{record.Learning, record.Forwarding} {
		x := tables(t, 9, vlan.Vlan{Vid: 1, Members: 7}, vlan.Vlan{Vid: 8, Members: 6})
		l := bridge(3)
		p := &l[0]
		p.State = state
		p.Accept = classify.Tagged
		stops(t, x, l, 1, plain(near, far), count.Refused)
		stops(t, x, l, 1, tagged(near, far, 0), count.Refused)
		p.Accept = classify.Untagged
		stops(t, x, l, 1, tagged(near, far, 1), count.Refused)
		stops(t, x, l, 1, tagged(near, far, 9), count.Refused)
		p.Accept, p.Filter = classify.All, true
		stops(t, x, l, 1, tagged(near, far, 9), count.NoVlan)
		stops(t, x, l, 1, tagged(near, far, 8), count.NoMember)
		p.Pvid = 9
		stops(t, x, l, 1, plain(near, far), count.NoVlan)
		p.Pvid = 8
		stops(t, x, l, 1, tagged(near, far, 0), count.NoMember)
		p.Filter = false
		why, at := count.Closed, []int(nil)
		if state == record.Forwarding {
			why, at = count.Sent, []int{2, 3}
		}
		passes(t, x, l, 1, tagged(near, far, 0), plane.Result{Why: why, Learnt: true}, at...)
		learns(t, x, fdb.Entry{Key: key(8, near), Port: 1})
	}
}

// P19.1: a station is new just where it wasn't there, of its VLAN; it is at the port where it was last seen.
func TestLearnt(t *testing.T) {
	x := tables(t, 9, vlan.Vlan{Vid: 1, Members: 7, Untagged: 7}, vlan.Vlan{Vid: 8, Members: 7, Untagged: 7})
	l := bridge(3)
	anew, known := plane.Result{Why: count.Sent, Learnt: true}, plane.Result{Why: count.Sent}
	passes(t, x, l, 1, plain(near, far), anew, 2, 3)
	passes(t, x, l, 1, tagged(near, far, 1), known, 2, 3)
	passes(t, x, l, 1, tagged(near, far, 0), known, 2, 3)
	x.Fdb.Tick()
	passes(t, x, l, 2, plain(near, far), known, 1, 3)
	learns(t, x, entry(near, 2, 0))
	x.Fdb.Tick()
	passes(t, x, l, 1, tagged(near, far, 8), anew, 2, 3)
	passes(t, x, l, 2, tagged(far, near, 8), anew, 1)
	learns(t, x, entry(near, 2, 1), fdb.Entry{Key: key(8, near), Port: 1}, fdb.Entry{Key: key(8, far), Port: 2})
	l[2].Pvid = 8
	passes(t, x, l, 3, plain(near, far), known, 2)
	learns(t, x, entry(near, 2, 1), fdb.Entry{Key: key(8, near), Port: 3}, fdb.Entry{Key: key(8, far), Port: 2})
}

// P19.1: what may not be learnt isn't new; the frame goes on all the same.
func TestNotLearnt(t *testing.T) {
	x := tables(t, 1, vlan.Vlan{Vid: 1, Members: all})
	seen(t, x, key(1, 99), 2, 5)
	passes(t, x, bridge(3), 1, plain(group, far), plane.Result{Why: count.Sent}, 2, 3)
	l := bridge(18)
	for _, from := range []int{17, 18} { // more ports than a bridge has
		r := passes(t, x, l, from, plain(near, 99), plane.Result{Why: count.Sent}, 2)
		if len(r.Sent) == 1 && r.Sent[0].Frame.Vid != 1 {
			t.Errorf("from %d: %+v", from, r.Sent)
		}
		l[from-1].Filter = true
		stops(t, x, l, from, plain(near, 99), count.NoMember)
	}
	learns(t, x, entry(99, 2, 5))
}

// P19.1: where there is no room, the oldest one goes, and then it isn't known any more; nobody goes for one who is there.
func TestEvicted(t *testing.T) {
	x := tables(t, 3, vlan.Vlan{Vid: 1, Members: 15})
	l := bridge(4)
	seen(t, x, key(1, 10), 1, 3)
	seen(t, x, key(1, 11), 2, 7)
	seen(t, x, key(1, 12), 3, 7)
	passes(t, x, l, 4, plain(12, 11), plane.Result{Why: count.Sent}, 2)
	passes(t, x, l, 4, plain(group, 11), plane.Result{Why: count.Sent}, 2)
	passes(t, x, l, 4, plain(13, 11), plane.Result{Why: count.Sent, Learnt: true, Evicted: true}, 1, 2, 3)
	learns(t, x, entry(10, 1, 3), entry(12, 4, 0), entry(13, 4, 0))
	l[1].State = record.Learning
	passes(t, x, l, 2, plain(14, 12), plane.Result{Why: count.Closed, Learnt: true, Evicted: true})
	learns(t, x, entry(12, 4, 0), entry(13, 4, 0), entry(14, 2, 0))
}

// P19.1: a port that is learning is closed, but learnt from.
func TestLearningPort(t *testing.T) {
	x := tables(t, 9, vlan.Vlan{Vid: 1, Members: 7})
	l := bridge(3)
	l[1].State = record.Learning
	passes(t, x, l, 2, plain(near, far), plane.Result{Why: count.Closed, Learnt: true})
	passes(t, x, l, 2, plain(near, far), plane.Result{Why: count.Closed})
	passes(t, x, l, 2, plain(group, far), plane.Result{Why: count.Closed})
	learns(t, x, entry(near, 2, 0))
	passes(t, x, l, 1, plain(far, near), plane.Result{Why: count.Sent, Learnt: true}) // there, but not open
}

// P19.1: to those alone that are on, and forwarding; a state that is none is neither Discarding nor Learning nor Forwarding.
func TestOpen(t *testing.T) {
	for _, state := range []int{-1, record.Discarding, record.Learning, record.Forwarding, 3, math.MinInt, math.MaxInt} {
		for _, up := range []bool{false, true} {
			for _, admin := range []bool{false, true} {
				x := tables(t, 9, vlan.Vlan{Vid: 1, Members: 7})
				l := bridge(3)
				p := &l[1]
				p.State, p.Up, p.Admin = state, up, admin
				at := []int{3}
				if up && admin && state == record.Forwarding {
					at = []int{2, 3}
				}
				passes(t, x, l, 1, plain(near, far), plane.Result{Why: count.Sent, Learnt: true}, at...)
				if up && admin && state != record.Discarding && state != record.Learning {
					passes(t, x, l, 2, plain(far, near), plane.Result{Why: count.Sent, Learnt: true}, 1)
				}
			}
		}
	}
	x := tables(t, 9, vlan.Vlan{Vid: 1, Members: 7})
	for role := range 5 { // its role counts for nothing
		l := bridge(3)
		l[0].Role, l[1].Role, l[2].Role = role, role, role
		passes(t, x, l, 1, plain(near, far), plane.Result{Why: count.Sent, Learnt: role == 0}, 2, 3)
	}
}

// P19.1: each port with each other one; rising, and never back.
func TestEveryPort(t *testing.T) {
	for size := 1; size <= 18; size++ {
		for from := 1; from <= size; from++ {
			x := tables(t, 9, vlan.Vlan{Vid: 1, Members: all})
			var at []int
			for p := 1; p <= min(size, api.MaxPorts); p++ {
				if p != from {
					at = append(at, p)
				}
			}
			passes(t, x, bridge(size), from, plain(near, far), plane.Result{Why: count.Sent, Learnt: from <= 16}, at...)
		}
	}
}

// P19.1: where it goes is layer 12's to say, behind what was learnt from it: not back to its own station.
func TestTowards(t *testing.T) {
	x := tables(t, 9, vlan.Vlan{Vid: 1, Members: 15}, vlan.Vlan{Vid: 8})
	l := bridge(4)
	seen(t, x, key(1, far), 3, 0)
	seen(t, x, key(1, 7), 3, 0)
	x.Static.Set(static.Entry{Key: key(1, 6), Ports: 0xFFF9})
	x.Static.Set(static.Entry{Key: key(1, 7)})
	sent := plane.Result{Why: count.Sent}
	passes(t, x, l, 1, plain(group, far), sent, 3)
	passes(t, x, l, 3, plain(group, far), sent)
	passes(t, x, l, 1, plain(group, 6), sent, 4)
	passes(t, x, l, 2, plain(group, 6), sent, 1, 4)
	passes(t, x, l, 1, plain(group, 7), sent)
	passes(t, x, l, 1, plain(group, 0x0180C2000010), sent, 2, 3, 4)
	passes(t, x, l, 1, tagged(group, far, 8), sent)
	passes(t, x, l, 1, plain(5, 5), plane.Result{Why: count.Sent, Learnt: true})
	passes(t, x, l, 2, plain(far, far), sent)
	learns(t, x, entry(far, 2, 0), entry(5, 1, 0), entry(7, 3, 0))
}

// P19.1: at each port it looks as layer 12 says, and isn't sent where it has no bytes.
func TestForm(t *testing.T) {
	x := tables(t, 9, vlan.Vlan{Vid: 1, Members: 7, Untagged: 2}, vlan.Vlan{Vid: 8, Members: 7, Untagged: 4})
	l := bridge(3)
	sent := func(f frame.Frame, want ...plane.Sent) {
		t.Helper()
		if r := plane.Pass(x, l, 1, f); r.Why != count.Sent || !slices.Equal(r.Sent, want) {
			t.Errorf("%+v is sent %+v, as %d; want %+v", short(f), r.Sent, r.Why, want)
		}
	}
	bare := plain(near, far)
	first, eighth := tagged(near, far, 1), tagged(near, far, 8)
	zero := first
	zero.Pcp, zero.Dei = 0, false
	sent(bare, plane.Sent{Port: 2, Frame: bare}, plane.Sent{Port: 3, Frame: zero})
	sent(tagged(near, far, 0), plane.Sent{Port: 2, Frame: bare}, plane.Sent{Port: 3, Frame: first})
	sent(first, plane.Sent{Port: 2, Frame: bare}, plane.Sent{Port: 3, Frame: first})
	sent(eighth, plane.Sent{Port: 2, Frame: eighth}, plane.Sent{Port: 3, Frame: bare})
	long := bare
	long.Data = strings.Repeat("x", api.MaxFrame-api.MinFrame)
	sent(long, plane.Sent{Port: 2, Frame: long})
	long.Data += "x"
	sent(long)
	twice := first // behind a tag it may be a tag's type, without one it may not
	twice.Type = 0x8100
	sent(twice, plane.Sent{Port: 3, Frame: twice})
}

// P19.1: tables that are nil have nothing.
func TestNil(t *testing.T) {
	x := tables(t, 9, vlan.Vlan{Vid: 1, Members: 7})
	l := bridge(3)
	seen(t, x, key(1, far), 2, 0)
	if r := plane.Pass(egress.Tables{}, l, 1, plain(near, far)); r.Why != count.NoVlan || r.Learnt || len(r.Sent) > 0 {
		t.Errorf("without tables: %+v", r)
	}
	stops(t, egress.Tables{Static: x.Static, Fdb: x.Fdb}, l, 1, plain(near, far), count.NoVlan)
	passes(t, egress.Tables{Vlans: x.Vlans, Static: x.Static}, l, 1, plain(near, far), plane.Result{Why: count.Sent}, 2, 3)
	passes(t, egress.Tables{Vlans: x.Vlans, Fdb: x.Fdb}, l, 1, plain(near, far), plane.Result{Why: count.Sent, Learnt: true}, 2)
	stops(t, x, nil, 1, plain(near, far), count.Closed)
}

// P19.1: ports, VLANs and static entries stay as they were; answers share nothing.
func TestKeeps(t *testing.T) {
	x := tables(t, 9, vlan.Vlan{Vid: 1, Members: 7})
	x.Static.Set(static.Entry{Key: key(1, 6), Ports: 6})
	l := append(bridge(3), record.Port{Cost: 55})[:3]
	was, vlans, laid := slices.Clone(l), x.Vlans.List(), x.Static.List()
	a, b := plane.Pass(x, l, 1, plain(near, far)), plane.Pass(x, l, 1, plain(near, far))
	want := slices.Clone(a.Sent)
	clear(b.Sent[:cap(b.Sent)])
	if !slices.Equal(a.Sent, want) || len(want) != 2 {
		t.Errorf("answers share memory: %+v, was %+v", a.Sent, want)
	}
	if !slices.Equal(l, was) || l[:4][3] != (record.Port{Cost: 55}) {
		t.Errorf("ports: %+v", l[:4])
	}
	if !slices.Equal(x.Vlans.List(), vlans) || !slices.Equal(x.Static.List(), laid) {
		t.Errorf("tables: %+v, %+v", x.Vlans.List(), x.Static.List())
	}
}

// P19.1: the shown fields are all, in their order.
func TestFields(t *testing.T) {
	f := plain(near, far)
	if got := (plane.Sent{7, f}); got.Port != 7 || got.Frame != f {
		t.Errorf("%+v", got)
	}
	if got := (plane.Result{[]plane.Sent{{1, f}}, 5, true, false}); len(got.Sent) != 1 || got.Why != 5 || !got.Learnt || got.Evicted {
		t.Errorf("%+v", got)
	}
}
