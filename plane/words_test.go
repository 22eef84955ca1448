package plane_test

import (
	"slices"
	"testing"

	"girder/addr"
	"girder/classify"
	"girder/count"
	"girder/egress"
	"girder/fdb"
	"girder/frame"
	"girder/plane"
	"girder/ports"
	"girder/record"
	"girder/static"
	"girder/vlan"
)

// words of the chapter, one by one; the bridge's tables are learnt in.
func words(x egress.Tables, l []record.Port, from int, f frame.Frame) plane.Result {
	there := from >= 1 && from <= len(l)
	if !there || !l[from-1].Up || !l[from-1].Admin || l[from-1].State == record.Discarding {
		return plane.Result{Why: count.Closed}
	}
	if f.Dst.Reserved() {
		return plane.Result{Why: count.Held}
	}
	vid, what := classify.Ingress(l[from-1].Port, from, f, x.Vlans)
	switch what {
	case classify.Refused:
		return plane.Result{Why: count.Refused}
	case classify.NoVlan:
		return plane.Result{Why: count.NoVlan}
	case classify.NoMember:
		return plane.Result{Why: count.NoMember}
	}
	var r plane.Result
	wasThere := slices.ContainsFunc(x.Fdb.List(), func(e fdb.Entry) bool { return e.Vid == vid && e.Mac == f.Src })
	r.Learnt = !wasThere && !f.Src.Group() && from <= 16
	_, r.Evicted = x.Fdb.Learn(fdb.Key{Vid: vid, Mac: f.Src}, from)
	r.Why = count.Closed
	if l[from-1].State == record.Learning {
		return r
	}
	r.Why = count.Sent
	var open ports.Set
	for i, p := range l {
		if p.Up && p.Admin && p.State == record.Forwarding && i < 16 {
			open |= 1 << i
		}
	}
	v, _ := x.Vlans.Get(vid)
	to := x.Ports(from, vid, f.Dst, open)
	for n := 1; n <= 16; n++ {
		g, ok := egress.Form(f, v, n)
		if to>>(n-1)&1 == 1 && ok {
			r.Sent = append(r.Sent, plane.Sent{Port: n, Frame: g})
		}
	}
	return r
}

// draw of numbers that come one behind the other, none by chance.
type draw uint64

// next number below a bound.
func (d *draw) next(bound int) int {
	*d = *d*6364136223846793005 + 1442695040888963407
	return int(uint64(*d>>33) % uint64(bound))
}

// yes, as often as once in so many.
func (d *draw) yes(once int) bool {
	return d.next(once) == 0
}

// address of few, of all kinds.
func (d *draw) address() addr.MAC {
	return addr.FromInt([...]uint64{2, 3, 4, 5, 6, 7, 8, 9, group, 0x0180C2000000, 0x0180C2000010, 0xFFFFFFFFFFFF}[d.next(12)])
}

// set of the first ports.
func (d *draw) set() ports.Set {
	return ports.Set(d.next(64))
}

// port in any way.
func (d *draw) port() record.Port {
	p := record.Port{Up: !d.yes(6), Admin: !d.yes(6), State: [...]int{0, 1, 2, 2, 2, 2, 2, 3}[d.next(8)], Role: d.next(5)}
	p.Pvid, p.Accept, p.Filter = uint16(1+d.next(3)), max(0, d.next(6)-3), d.yes(3)
	return p
}

// frame of any kind.
func (d *draw) frame() frame.Frame {
	f := frame.Frame{Src: d.address(), Dst: d.address(), Type: 0x800, Data: "abcd"[:d.next(4)]}
	if d.yes(2) {
		f.Tagged, f.Pcp, f.Dei, f.Vid = true, uint8(d.next(8)), d.yes(2), uint16(d.next(5))
	}
	return f
}

// lay the same things down in two bridges' tables.
func (d *draw) lay(a, b egress.Tables) {
	v := vlan.Vlan{Vid: uint16(1 + d.next(4)), Members: d.set()}
	v.Untagged = v.Members & d.set()
	e := static.Entry{Key: fdb.Key{Vid: v.Vid, Mac: d.address()}, Ports: d.set()}
	what, vid := d.next(4), uint16(1+d.next(4))
	for _, x := range []egress.Tables{a, b} {
		x.Vlans.Set(v)
		switch what {
		case 0:
			x.Static.Set(e)
		case 1:
			x.Static.Drop(e.Key)
		case 2:
			x.Vlans.Drop(vid)
		case 3:
			x.Fdb.Tick()
		}
	}
}

// P19.1: whatever comes one behind the other, it is as the words say.
func TestWords(t *testing.T) {
	var d draw
	whys := map[int]int{}
	for range 300 {
		room := 1 + d.next(8)
		a, b := tables(t, room), tables(t, room)
		var l []record.Port
		for range d.next(7) {
			l = append(l, d.port())
		}
		for range 100 {
			if d.yes(3) {
				d.lay(a, b)
			}
			if len(l) > 0 && d.yes(4) {
				l[d.next(len(l))] = d.port()
			}
			from, f := d.next(len(l)+2), d.frame()
			got, want := plane.Pass(a, l, from, f), words(b, l, from, f)
			if !slices.Equal(got.Sent, want.Sent) || got.Why != want.Why || got.Learnt != want.Learnt || got.Evicted != want.Evicted {
				t.Fatalf("Pass at %d of %+v: %+v, want %+v", from, f, got, want)
			}
			if !slices.Equal(a.Fdb.List(), b.Fdb.List()) {
				t.Fatalf("at %d of %+v: learnt %+v, want %+v", from, f, a.Fdb.List(), b.Fdb.List())
			}
			whys[got.Why]++
			if got.Evicted {
				whys[count.Evicted]++
			}
			if len(got.Sent) > 1 {
				whys[count.Frames]++ // sent more than once
			}
		}
	}
	for _, why := range []int{count.Frames, count.Held, count.Refused, count.NoVlan, count.NoMember, count.Closed, count.Sent, count.Evicted} {
		if whys[why] < 200 {
			t.Errorf("%d was met %d times", why, whys[why])
		}
	}
}
