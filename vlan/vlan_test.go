package vlan_test

import (
	"math"
	"slices"
	"testing"

	"girder/api"
	"girder/ports"
	"girder/vlan"
)

// of a number, without ports.
func of(vid uint16) vlan.Vlan {
	return vlan.Vlan{Vid: vid}
}

// with members, and those of them without a tag.
func with(vid uint16, members, untagged ports.Set) vlan.Vlan {
	return vlan.Vlan{Vid: vid, Members: members, Untagged: untagged}
}

// table of some VLANs.
func table(t *testing.T, l ...vlan.Vlan) *vlan.Table {
	t.Helper()
	x := vlan.New()
	for _, v := range l {
		if e := x.Set(v); e != api.OK {
			t.Fatalf("Set(%+v) = %d", v, e)
		}
	}
	return x
}

// holds a table against all that should be in it.
func holds(t *testing.T, x *vlan.Table, want ...vlan.Vlan) {
	t.Helper()
	if got := x.List(); !slices.Equal(got, want) {
		t.Errorf("List tells %+v, want %+v", got, want)
	}
	there := map[uint16]vlan.Vlan{}
	for _, v := range want {
		there[v.Vid] = v
	}
	for vid := range 1 << 16 {
		v, ok := there[uint16(vid)]
		if got, found := x.Get(uint16(vid)); got != v || found != ok {
			t.Errorf("Get(%d) = %+v, %v, want %+v, %v", vid, got, found, v, ok)
		}
	}
}

// full is a table with as many VLANs as it may have, from 1 on, and a list of them.
func full(t *testing.T) (*vlan.Table, []vlan.Vlan) {
	t.Helper()
	var l []vlan.Vlan
	for i := range api.MaxVlans {
		l = append(l, with(uint16(i+1), ports.Of(i+1, 1), ports.Of(i+1)))
	}
	return table(t, l...), l
}

// P8.1
func TestNew(t *testing.T) {
	x, y := vlan.New(), vlan.New()
	if x == nil {
		t.Fatal("New tells nil")
	}
	holds(t, x)
	if e := x.Set(with(5, 3, 2)); e != api.OK {
		t.Error(e)
	}
	holds(t, y) // tables are each its own
	holds(t, x, with(5, 3, 2))
}

// P8.1
func TestSet(t *testing.T) {
	for _, v := range []vlan.Vlan{
		with(5, ports.Of(1, 2), ports.Of(2)),
		of(1),
		of(api.MaxVid),
		with(1, 0xFFFF, 0xFFFF),
		with(4094, 0xFFFF, 0),
		with(256, 0x8000, 0x8000),
		with(4093, 1, 1),
		with(2, 1, 0),
	} {
		holds(t, table(t, v), v)
	}
}

// P8.1: every number, from no VLAN's over all to no VLAN's again.
func TestSetOfEveryVid(t *testing.T) {
	x := vlan.New()
	for n := range 1 << 16 {
		vid, want := uint16(n), api.ErrVlan
		if n >= 1 && n <= 4094 {
			want = api.OK
		}
		if e := x.Set(with(vid, 6, 4)); e != want {
			t.Fatalf("Set of %d: %d, want %d", n, e, want)
		}
		v, found := x.Get(vid)
		if found != (want == api.OK) || found && v != with(vid, 6, 4) || !found && v != of(0) {
			t.Fatalf("Get(%d) = %+v, %v", n, v, found)
		}
		if e := x.Drop(vid); found != (e == api.OK) || !found && e != api.ErrNone {
			t.Fatalf("Drop(%d) = %d", n, e)
		}
	}
	holds(t, x)
}

// wrongPorts are VLANs that may not be by their ports.
func wrongPorts(vid uint16) []vlan.Vlan {
	l := []vlan.Vlan{
		with(vid, 0, 1), with(vid, 1, 2), with(vid, 1, 3), with(vid, 0x7FFF, 0x8000), with(vid, 0xFFFE, 0xFFFF),
		with(vid, math.MaxUint32, 0), with(vid, math.MaxUint32, 1), with(vid, 0xFFFF, math.MaxUint32), with(vid, math.MaxUint32, math.MaxUint32),
	}
	for at := 16; at < 32; at++ {
		bit := ports.Set(1 << at)
		l = append(l, with(vid, bit, 0), with(vid, 0, bit), with(vid, bit, bit), with(vid, 1|bit, 1), with(vid, 1, 1|bit), with(vid, 1|bit, 1|bit))
	}
	return l
}

// P8.1: also a number that is there already stays as it is, where the new one is wrong.
func TestSetOfWrongPorts(t *testing.T) {
	x := table(t, with(3, 7, 1))
	for _, vid := range []uint16{1, 3, 9, 4094} {
		for _, v := range wrongPorts(vid) {
			if e := x.Set(v); e != api.ErrPort {
				t.Errorf("Set(%+v) = %d, want %d", v, e, api.ErrPort)
			}
		}
	}
	holds(t, x, with(3, 7, 1))
}

// P8.1: each two sets of four ports, the lowest and the highest ones: just those within may be.
func TestSetOfEveryPair(t *testing.T) {
	x := vlan.New()
	for m := range 16 {
		for u := range 16 {
			v := with(9, spread(m), spread(u))
			want := api.OK
			for i := range 4 {
				if u>>i&1 > m>>i&1 {
					want = api.ErrPort
				}
			}
			if e := x.Set(v); e != want {
				t.Errorf("Set(%+v) = %d, want %d", v, e, want)
			}
		}
	}
}

// spread four bits over the ports 1, 2, 15 and 16.
func spread(n int) ports.Set {
	return ports.Set(n&3 | n>>2<<14)
}

// P8.1: of several errors the one that is named first.
func TestSetOrder(t *testing.T) {
	x, all := full(t)
	var none *vlan.Table
	for _, vid := range []uint16{0, 4095, 4096, 65535} {
		for _, v := range append(wrongPorts(vid), of(vid), with(vid, 3, 1)) {
			if e := none.Set(v); e != api.ErrArg {
				t.Errorf("Set(%+v) of nil = %d", v, e)
			}
			if e := x.Set(v); e != api.ErrVlan {
				t.Errorf("Set(%+v) = %d, want %d", v, e, api.ErrVlan)
			}
		}
	}
	for _, vid := range []uint16{1, 16, 17, 4094} {
		for _, v := range wrongPorts(vid) {
			if e := none.Set(v); e != api.ErrArg {
				t.Errorf("Set(%+v) of nil = %d", v, e)
			}
			if e := x.Set(v); e != api.ErrPort {
				t.Errorf("Set(%+v) of a full table = %d, want %d", v, e, api.ErrPort)
			}
		}
	}
	holds(t, x, all...)
}

// P8.1: a full table takes no other number, but those that it has, and another one for one that goes.
func TestFull(t *testing.T) {
	x, l := full(t)
	for _, vid := range []uint16{17, 18, 100, 4094} {
		if e := x.Set(with(vid, 1, 1)); e != api.ErrFull {
			t.Errorf("Set of %d: %d, want %d", vid, e, api.ErrFull)
		}
	}
	holds(t, x, l...)
	for i := range l {
		l[i] = with(l[i].Vid, 0x8002, ports.Of(16))
		if e := x.Set(l[i]); e != api.OK {
			t.Errorf("Set(%+v) = %d", l[i], e)
		}
	}
	holds(t, x, l...)
	if e := x.Drop(4); e != api.OK {
		t.Error(e)
	}
	l = slices.Delete(l, 3, 4)
	for _, v := range []vlan.Vlan{with(4094, 1, 0), of(4)} {
		want := api.OK
		if len(l) == api.MaxVlans {
			want = api.ErrFull
		}
		if e := x.Set(v); e != want {
			t.Errorf("Set(%+v) = %d, want %d", v, e, want)
		}
		if want == api.OK {
			l = append(l, v)
		}
	}
	holds(t, x, l...)
}

// P8.1: the table fills at MaxVlans, not ahead of that and not behind it, in whichever order they come.
func TestFilling(t *testing.T) {
	x := vlan.New()
	var l []vlan.Vlan
	for i := range 40 {
		v := with(uint16(4094-i*101), ports.Set(i), 0)
		want := api.ErrFull
		if i < api.MaxVlans {
			want = api.OK
			l = append(l, v)
		}
		if e := x.Set(v); e != want {
			t.Errorf("Set of the %dth: %d, want %d", i, e, want)
		}
	}
	slices.Reverse(l)
	holds(t, x, l...)
}

// P8.1
func TestSetAnew(t *testing.T) {
	x := table(t, with(5, 3, 1), with(6, 7, 7))
	for _, v := range []vlan.Vlan{with(5, 12, 8), of(5), with(5, 3, 1), with(5, 3, 1), with(5, 0xFFFF, 0)} {
		if e := x.Set(v); e != api.OK {
			t.Errorf("Set(%+v) = %d", v, e)
		}
		holds(t, x, v, with(6, 7, 7))
	}
}

// P8.1
func TestDrop(t *testing.T) {
	x := table(t, with(5, 3, 1), of(1), of(4094))
	for _, c := range []struct {
		vid  uint16
		want api.Errno
	}{{2, api.ErrNone}, {0, api.ErrNone}, {4095, api.ErrNone}, {65535, api.ErrNone}, {5 + 4096, api.ErrNone}, {5, api.OK}, {5, api.ErrNone}} {
		if e := x.Drop(c.vid); e != c.want {
			t.Errorf("Drop(%d) = %d, want %d", c.vid, e, c.want)
		}
	}
	holds(t, x, of(1), of(4094))
	if e := x.Set(with(5, 8, 0)); e != api.OK {
		t.Error(e)
	}
	holds(t, x, of(1), with(5, 8, 0), of(4094))
	for _, vid := range []uint16{4094, 1, 5} {
		if e := x.Drop(vid); e != api.OK {
			t.Errorf("Drop(%d) = %d", vid, e)
		}
	}
	holds(t, x)
	if e := x.Drop(1); e != api.ErrNone {
		t.Errorf("Drop of a table without VLANs: %d", e)
	}
}

// P8.1: many times, as what a map tells first may differ each time.
func TestListOrder(t *testing.T) {
	vids := []uint16{9, 4094, 1, 300, 2, 4093, 255, 256, 10, 3, 1000, 4000, 257, 100, 7, 8}
	rising := slices.Clone(vids)
	slices.Sort(rising)
	for turn := range len(vids) {
		x := vlan.New()
		for i := range vids {
			if e := x.Set(of(vids[(i+turn)%len(vids)])); e != api.OK {
				t.Fatal(e)
			}
		}
		for range 20 {
			var got []uint16
			for _, v := range x.List() {
				got = append(got, v.Vid)
			}
			if !slices.Equal(got, rising) {
				t.Fatalf("List tells %v", got)
			}
		}
	}
}

// P8.1, and the rule that an answer is new memory.
func TestListIsNew(t *testing.T) {
	x := table(t, with(5, 3, 1), with(2, 6, 6))
	l, other := x.List(), x.List()
	l[0] = with(77, 1, 1)
	l[1].Members = 0
	_ = append(l[:1], of(9), of(10))
	if !slices.Equal(other, []vlan.Vlan{with(2, 6, 6), with(5, 3, 1)}) {
		t.Errorf("another list tells %+v", other)
	}
	holds(t, x, with(2, 6, 6), with(5, 3, 1))
	if e := x.Drop(2); e != api.OK {
		t.Error(e)
	}
	if !slices.Equal(other, []vlan.Vlan{with(2, 6, 6), with(5, 3, 1)}) {
		t.Errorf("behind a Drop that list tells %+v", other)
	}
}

// P8.1
func TestNil(t *testing.T) {
	var x *vlan.Table
	if e := x.Set(with(5, 3, 1)); e != api.ErrArg {
		t.Errorf("Set of nil = %d", e)
	}
	for _, vid := range []uint16{0, 1, 5, 4094, 4095, 65535} {
		if e := x.Drop(vid); e != api.ErrArg {
			t.Errorf("Drop(%d) of nil = %d", vid, e)
		}
		if v, found := x.Get(vid); v != of(0) || found {
			t.Errorf("Get(%d) of nil = %+v, %v", vid, v, found)
		}
	}
	if l := x.List(); len(l) != 0 {
		t.Errorf("List of nil = %+v", l)
	}
}
