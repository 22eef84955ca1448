package static_test

import (
	"math"
	"slices"
	"testing"

	"girder/addr"
	"girder/api"
	"girder/fdb"
	"girder/ports"
	"girder/static"
)

// key of a VLAN's number, and an address' number.
func key(vid uint16, n uint64) fdb.Key {
	return fdb.Key{Vid: vid, Mac: addr.FromInt(n)}
}

// entry of a key, and ports.
func entry(k fdb.Key, s ports.Set) static.Entry {
	return static.Entry{Key: k, Ports: s}
}

// reserved is the address of that last byte in the row in which the Reserved ones stand.
func reserved(last int) addr.MAC {
	return addr.MAC{0x01, 0x80, 0xC2, 0, 0, byte(last)}
}

// table of some entries.
func table(t *testing.T, l ...static.Entry) *static.Table {
	t.Helper()
	x := static.New()
	for _, e := range l {
		sets(t, x, e, api.OK)
	}
	return x
}

// sets an entry, and is answered that.
func sets(t *testing.T, x *static.Table, e static.Entry, want api.Errno) {
	t.Helper()
	if got := x.Set(e); got != want {
		t.Errorf("Set(%+v) = %d, want %d", e, got, want)
	}
}

// drops an entry, and is answered that.
func drops(t *testing.T, x *static.Table, k fdb.Key, want api.Errno) {
	t.Helper()
	if got := x.Drop(k); got != want {
		t.Errorf("Drop(%v) = %d, want %d", k, got, want)
	}
}

// holds a table against all that should be in it.
func holds(t *testing.T, x *static.Table, want ...static.Entry) {
	t.Helper()
	if got := x.List(); !slices.Equal(got, want) {
		t.Errorf("List tells %+v, want %+v", got, want)
	}
	for _, e := range want {
		if s, found := x.Get(e.Key); s != e.Ports || !found {
			t.Errorf("Get(%v) = %x, %v, want %x, true", e.Key, s, found, e.Ports)
		}
	}
}

// lacks keys, all of them.
func lacks(t *testing.T, x *static.Table, l ...fdb.Key) {
	t.Helper()
	for _, k := range l {
		if s, found := x.Get(k); s != 0 || found {
			t.Errorf("Get(%v) = %x, %v, want 0, false", k, s, found)
		}
	}
}

// full is a table with as many entries as it may have, by rising keys, and a list of them.
func full(t *testing.T) (*static.Table, []static.Entry) {
	t.Helper()
	var l []static.Entry
	for i := range api.MaxStatic {
		l = append(l, entry(key(uint16(1+i/4), uint64(i)), ports.Of(i+1)))
	}
	return table(t, l...), l
}

// P10.1
func TestNew(t *testing.T) {
	x, y := static.New(), static.New()
	if x == nil || y == nil {
		t.Fatal("New tells nil")
	}
	holds(t, x)
	lacks(t, x, key(1, 2), key(0, 0))
	sets(t, x, entry(key(1, 2), 4), api.OK)
	holds(t, y) // tables are each its own
	holds(t, x, entry(key(1, 2), 4))
}

// P10.1: groups' addresses may be, and no ports at all.
func TestSet(t *testing.T) {
	for _, e := range []static.Entry{
		entry(key(1, 2), ports.Of(3)),
		entry(key(1, 0), 0),
		entry(key(4094, 0xFFFFFFFFFFFF), 0xFFFF),
		entry(key(256, 0x010000000000), 0x8000),
		entry(key(5, 0x0180C2000010), 1),
		entry(key(5, 0x0180C1FFFFFF), 0x7FFF),
	} {
		holds(t, table(t, e), e)
	}
}

// P10.1, and the example.
func TestSetOfNoPorts(t *testing.T) {
	x := table(t, entry(key(1, 2), 0))
	if s, found := x.Get(key(1, 2)); s != 0 || !found {
		t.Errorf("Get = %x, %v, want 0, true", s, found)
	}
	holds(t, x, entry(key(1, 2), 0))
}

// P10.1: every number, from no VLAN's over all to no VLAN's again.
func TestSetOfEveryVid(t *testing.T) {
	x := static.New()
	for n := range 1 << 16 {
		k := key(uint16(n), 2)
		want, gone := api.ErrVlan, api.ErrNone
		if n >= 1 && n <= 4094 {
			want, gone = api.OK, api.OK
		}
		sets(t, x, entry(k, 6), want)
		if s, found := x.Get(k); found != (want == api.OK) || found && s != 6 || !found && s != 0 {
			t.Fatalf("Get(%v) = %x, %v", k, s, found)
		}
		drops(t, x, k, gone)
	}
	holds(t, x)
}

// P10.1: every last byte behind the front that Reserved addresses have, and fronts beside it.
func TestSetOfReserved(t *testing.T) {
	for last := range 256 {
		x := static.New()
		e := entry(fdb.Key{Vid: 7, Mac: reserved(last)}, 5)
		if last < 0x10 {
			sets(t, x, e, api.ErrRange)
			holds(t, x)
			lacks(t, x, e.Key)
		} else {
			sets(t, x, e, api.OK)
			holds(t, x, e)
		}
	}
	for at := range 5 {
		m := reserved(5)
		m[at] ^= 4
		sets(t, static.New(), entry(fdb.Key{Vid: 7, Mac: m}, 5), api.OK)
	}
}

// wrongPorts are sets with bits that are no ports.
func wrongPorts() []ports.Set {
	l := []ports.Set{math.MaxUint32, 0xFFFF0000}
	for at := 16; at < 32; at++ {
		l = append(l, 1<<at, 1<<at|1, 1<<at|0xFFFF)
	}
	return l
}

// P10.1: every port, and bits that are none; also an entry that is there stays as it is, where the new one is wrong.
func TestSetOfPorts(t *testing.T) {
	for p := 1; p <= api.MaxPorts; p++ {
		e := entry(key(1, 2), ports.Of(p))
		holds(t, table(t, e), e)
	}
	x := table(t, entry(key(3, 4), 7))
	for _, s := range wrongPorts() {
		for _, k := range []fdb.Key{key(3, 4), key(3, 5), key(1, 0), key(4094, 1<<40)} {
			sets(t, x, entry(k, s), api.ErrPort)
		}
	}
	holds(t, x, entry(key(3, 4), 7))
	lacks(t, x, key(3, 5), key(1, 0), key(4094, 1<<40))
}

// P10.1: of several errors the one that is named first.
func TestSetOrder(t *testing.T) {
	x, all := full(t)
	var none *static.Table
	sound, banned := addr.MAC{2}, reserved(15)
	for _, vid := range []uint16{0, 4095, 4096, 65535} {
		for _, m := range []addr.MAC{sound, banned} {
			for _, s := range append(wrongPorts(), 0, 1, 0xFFFF) {
				sets(t, none, entry(fdb.Key{Vid: vid, Mac: m}, s), api.ErrArg)
				sets(t, x, entry(fdb.Key{Vid: vid, Mac: m}, s), api.ErrVlan)
			}
		}
	}
	for _, vid := range []uint16{1, 9, 4094} {
		for _, s := range append(wrongPorts(), 0, 1, 0xFFFF) {
			sets(t, none, entry(fdb.Key{Vid: vid, Mac: banned}, s), api.ErrArg)
			sets(t, x, entry(fdb.Key{Vid: vid, Mac: banned}, s), api.ErrRange)
		}
		for _, s := range wrongPorts() {
			sets(t, none, entry(fdb.Key{Vid: vid, Mac: sound}, s), api.ErrArg)
			sets(t, x, entry(fdb.Key{Vid: vid, Mac: sound}, s), api.ErrPort)
		}
		sets(t, none, entry(fdb.Key{Vid: vid, Mac: sound}, 1), api.ErrArg)
		sets(t, x, entry(fdb.Key{Vid: vid, Mac: sound}, 1), api.ErrFull)
	}
	holds(t, x, all...)
}

// P10.1: a full table takes no other key, but those that it has, and another one for one that goes.
func TestFull(t *testing.T) {
	x, l := full(t)
	for _, k := range []fdb.Key{key(1, 9), key(2, 0), key(5, 0), key(4094, 1<<47)} {
		sets(t, x, entry(k, 1), api.ErrFull)
		lacks(t, x, k)
	}
	holds(t, x, l...)
	for i := range l {
		l[i].Ports = ports.Set(0x8000 >> i)
		sets(t, x, l[i], api.OK)
	}
	holds(t, x, l...)
	drops(t, x, l[3].Key, api.OK)
	l = append(slices.Delete(l, 3, 4), entry(key(4094, 9), 3))
	sets(t, x, l[15], api.OK)
	sets(t, x, entry(key(1, 3), 1), api.ErrFull)
	holds(t, x, l...)
}

// P10.1: the table fills at MaxStatic, not ahead of that and not behind it, in whichever order they come.
func TestFilling(t *testing.T) {
	x := static.New()
	var l []static.Entry
	for i := range 40 {
		e := entry(key(uint16(100-i%2), uint64(1000-i)), ports.Set(i))
		want := api.ErrFull
		if i < api.MaxStatic {
			want = api.OK
			l = append(l, e)
		}
		sets(t, x, e, want)
	}
	slices.SortFunc(l, func(a, b static.Entry) int {
		if a.Vid != b.Vid {
			return int(a.Vid) - int(b.Vid)
		}
		return slices.Compare(a.Mac[:], b.Mac[:])
	})
	holds(t, x, l...)
}

// P10.1
func TestSetAnew(t *testing.T) {
	other := entry(key(2, 2), 9)
	x := table(t, entry(key(1, 2), 3), other)
	for _, s := range []ports.Set{12, 0, 3, 3, 0xFFFF} {
		sets(t, x, entry(key(1, 2), s), api.OK)
		holds(t, x, entry(key(1, 2), s), other)
	}
}

// P10.1: neither the VLAN alone nor the address alone is the key.
func TestDrop(t *testing.T) {
	a, b, c := entry(key(1, 2), 3), entry(key(1, 4), 0), entry(key(2, 2), 5)
	x := table(t, c, a, b)
	for _, k := range []fdb.Key{key(2, 4), key(3, 2), key(1, 3), key(0, 2), key(0, 0), key(4095, 2), key(4097, 2), key(1, 2<<8), {Vid: 1, Mac: reserved(0)}} {
		drops(t, x, k, api.ErrNone)
		lacks(t, x, k)
	}
	holds(t, x, a, b, c)
	drops(t, x, b.Key, api.OK)
	drops(t, x, b.Key, api.ErrNone)
	lacks(t, x, b.Key)
	holds(t, x, a, c)
	sets(t, x, entry(key(1, 4), 8), api.OK)
	holds(t, x, a, entry(key(1, 4), 8), c)
	for _, k := range []fdb.Key{c.Key, a.Key, b.Key} {
		drops(t, x, k, api.OK)
	}
	holds(t, x)
	drops(t, x, a.Key, api.ErrNone)
}

// P10.1: many times, as what a map tells first may differ each time.
func TestListOrder(t *testing.T) {
	var want []static.Entry
	for i, k := range []fdb.Key{
		key(1, 0), key(1, 1), key(1, 0xFF), key(1, 0x100), key(1, 0x10000), key(1, 0x1000000), key(1, 0x100000000), key(1, 0x100000001), key(1, 0x010000000000), key(1, 0xFFFFFFFFFFFF),
		key(2, 0), key(2, 2), key(255, 1), key(256, 0), key(4093, 1), key(4094, 0),
	} {
		want = append(want, entry(k, ports.Set(i)))
	}
	for turn := range want {
		x := table(t, slices.Concat(want[turn:], want[:turn])...)
		for range 20 {
			holds(t, x, want...)
		}
	}
}

// P10.1, and the rule that an answer is new memory.
func TestListIsNew(t *testing.T) {
	a, b := entry(key(1, 2), 3), entry(key(1, 4), 5)
	x := table(t, b, a)
	l, other := x.List(), x.List()
	l[0], l[1].Ports = entry(key(7, 7), 7), 0
	_ = append(l[:1], b, b)
	if !slices.Equal(other, []static.Entry{a, b}) {
		t.Errorf("another list tells %+v", other)
	}
	holds(t, x, a, b)
	drops(t, x, a.Key, api.OK)
	if !slices.Equal(other, []static.Entry{a, b}) {
		t.Errorf("behind a Drop that list tells %+v", other)
	}
}

// P10.1
func TestNil(t *testing.T) {
	var x *static.Table
	for _, k := range []fdb.Key{key(1, 2), key(0, 0), key(4094, 1), key(65535, 1<<47), {Vid: 1, Mac: reserved(0)}} {
		sets(t, x, entry(k, 1), api.ErrArg)
		drops(t, x, k, api.ErrArg)
		lacks(t, x, k)
	}
	holds(t, x)
}
