package fdb_test

import (
	"cmp"
	"math"
	"slices"
	"testing"

	"girder/addr"
	"girder/api"
	"girder/fdb"
)

// key of a VLAN's number, and an address' number.
func key(vid uint16, n uint64) fdb.Key {
	return fdb.Key{Vid: vid, Mac: addr.FromInt(n)}
}

// entry of a key, a port and an age.
func entry(k fdb.Key, port, age int) fdb.Entry {
	return fdb.Entry{Key: k, Port: port, Age: age}
}

// with is one of so many entries, kept so long, in which some were put.
func with(t *testing.T, most, live int, l ...fdb.Entry) *fdb.Fdb {
	t.Helper()
	f := fdb.New(most, live)
	for _, e := range l {
		if !f.Put(e) {
			t.Fatalf("Put(%+v) = false", e)
		}
	}
	return f
}

// holds one against all that should be in it.
func holds(t *testing.T, f *fdb.Fdb, want ...fdb.Entry) {
	t.Helper()
	if got := f.List(); !slices.Equal(got, want) {
		t.Errorf("List tells %+v, want %+v", got, want)
	}
	for _, e := range want {
		if p, found := f.Find(e.Key); p != e.Port || !found {
			t.Errorf("Find(%v) = %d, %v, want %d, true", e.Key, p, found, e.Port)
		}
	}
}

// lacks keys, all of them.
func lacks(t *testing.T, f *fdb.Fdb, l ...fdb.Key) {
	t.Helper()
	for _, k := range l {
		if p, found := f.Find(k); p != 0 || found {
			t.Errorf("Find(%v) = %d, %v, want 0, false", k, p, found)
		}
	}
}

// learns a key, for which none has to go.
func learns(t *testing.T, f *fdb.Fdb, k fdb.Key, port int) {
	t.Helper()
	if gone, ok := f.Learn(k, port); gone != (fdb.Entry{}) || ok {
		t.Errorf("Learn(%v, %d) = %+v, %v, want none", k, port, gone, ok)
	}
}

// noPorts are numbers of none.
var noPorts = []int{math.MinInt, math.MinInt32, -16, -1, 0, 17, 18, 32, 33, 256, 257, 1 << 16, 1<<16 + 1, 1<<32 + 1, math.MaxInt}

// groups are addresses of several stations.
var groups = []addr.MAC{{1}, {3, 2, 3, 4, 5, 6}, {0x01, 0x80, 0xC2, 0, 0, 0}, {0xFF, 0xFF, 0xFF, 0xFF, 0xFF, 0xFF}, {0x81}, {0xFD}}

// rising keys: VLANs' numbers first, then addresses by their numbers, the highest byte first.
var rising = []fdb.Key{
	key(0, 0), key(0, 1), key(0, 0xFEFFFFFFFFFF),
	key(1, 0), key(1, 1), key(1, 2), key(1, 0xFF), key(1, 0x100), key(1, 0x1FF), key(1, 0x200), key(1, 0x10000),
	key(1, 0x1000000), key(1, 0x100000000), key(1, 0x100000001), key(1, 0x7FFFFFFFFF), key(1, 0x20000000000), key(1, 0x800000000000), key(1, 0xFEFFFFFFFFFF),
	key(2, 0), key(2, 2), key(255, 1), key(256, 0), key(4094, 1), key(4095, 0), key(32768, 1), key(65535, 0), key(65535, 5),
}

// P9.1: each two of them.
func TestLess(t *testing.T) {
	for i, k := range rising {
		for j, o := range rising {
			if got := k.Less(o); got != (i < j) {
				t.Errorf("%v.Less(%v) = %v", k, o, got)
			}
		}
	}
	if low, high := (fdb.Key{Mac: addr.MAC{1}}), (fdb.Key{Mac: addr.MAC{2}}); !low.Less(high) || high.Less(low) {
		t.Error("a group's address doesn't stand by its number")
	}
	if e := entry(key(1, 1), 9, 9); !e.Less(key(1, 2)) || e.Less(key(1, 1)) {
		t.Error("an entry's Less isn't its key's")
	}
}

// P9.1
func TestNewMost(t *testing.T) {
	for _, c := range []struct{ most, want int }{
		{math.MinInt, 1}, {math.MinInt32, 1}, {-64, 1}, {-1, 1}, {0, 1}, {1, 1}, {2, 2}, {7, 7}, {63, 63}, {64, 64},
		{65, 64}, {66, 64}, {128, 64}, {1000, 64}, {1<<32 + 2, 64}, {math.MaxInt, 64},
	} {
		f, g := fdb.New(c.most, 9), fdb.New(c.most, 9)
		for i := range api.MaxFdb + 3 {
			if got := f.Put(entry(key(1, uint64(i)), 1, 0)); got != (i < c.want) {
				t.Errorf("New(%d, 9): Put of the %dth = %v", c.most, i, got)
			}
			if _, full := g.Learn(key(1, uint64(i)), 1); full != (i >= c.want) {
				t.Errorf("New(%d, 9): Learn of the %dth = %v", c.most, i, full)
			}
		}
		if got := len(f.List()); got != c.want {
			t.Errorf("New(%d, 9) has room for %d, want %d", c.most, got, c.want)
		}
		if got := len(g.List()); got != c.want {
			t.Errorf("New(%d, 9) learns %d, want %d", c.most, got, c.want)
		}
	}
}

// P9.1
func TestNewLive(t *testing.T) {
	for _, c := range []struct{ live, want int }{
		{math.MinInt, 1}, {math.MinInt32, 1}, {-1000, 1}, {-1, 1}, {0, 1}, {1, 1}, {2, 2}, {30, 30}, {64, 64}, {65, 65}, {999, 999}, {1000, 1000},
		{1001, 1000}, {2000, 1000}, {1<<32 + 2, 1000}, {math.MaxInt, 1000},
	} {
		f := fdb.New(2, c.live)
		for _, age := range []int{c.want, c.want + 1} {
			if f.Put(entry(key(1, 2), 3, age)) {
				t.Errorf("New(2, %d) takes one of age %d", c.live, age)
			}
		}
		learns(t, f, key(1, 4), 5)
		for i := range c.want {
			holds(t, f, entry(key(1, 4), 5, i))
			want := 0
			if i == c.want-1 {
				want = 1
			}
			if got := f.Tick(); got != want {
				t.Errorf("New(2, %d): the %dth Tick = %d, want %d", c.live, i, got, want)
			}
		}
		holds(t, f)
		if !f.Put(entry(key(1, 2), 3, c.want-1)) {
			t.Errorf("New(2, %d) doesn't take one of age %d", c.live, c.want-1)
		}
	}
}

// P9.1
func TestNewIsAlone(t *testing.T) {
	f, g := fdb.New(3, 9), fdb.New(3, 9)
	if f == nil || g == nil {
		t.Fatal("New tells nil")
	}
	holds(t, f)
	lacks(t, f, rising...)
	learns(t, f, key(1, 2), 3)
	holds(t, g)
	g.Tick()
	holds(t, f, entry(key(1, 2), 3, 0))
}

// P9.1
func TestLearn(t *testing.T) {
	f := fdb.New(4, 9)
	learns(t, f, key(1, 2), 3)
	holds(t, f, entry(key(1, 2), 3, 0))
	f.Tick()
	f.Tick()
	learns(t, f, key(1, 4), 16)
	learns(t, f, key(2, 2), 1)
	holds(t, f, entry(key(1, 2), 3, 2), entry(key(1, 4), 16, 0), entry(key(2, 2), 1, 0))
	f.Tick()
	learns(t, f, key(1, 2), 7) // seen again, elsewhere
	learns(t, f, key(1, 4), 16)
	holds(t, f, entry(key(1, 2), 7, 0), entry(key(1, 4), 16, 0), entry(key(2, 2), 1, 1))
	lacks(t, f, key(2, 4), key(1, 3), key(0, 2), key(3, 2), key(4097, 2), key(1, 2<<8), fdb.Key{})
}

// P9.1: every port, every number of a VLAN, and every first byte of an address.
func TestLearnOfEvery(t *testing.T) {
	for port := 1; port <= api.MaxPorts; port++ {
		f := fdb.New(1, 1)
		learns(t, f, key(1, 2), port)
		holds(t, f, entry(key(1, 2), port, 0))
	}
	f := fdb.New(1, 1)
	for vid := range 1 << 16 {
		k := key(uint16(vid), 2)
		f.Learn(k, 3)
		if l := f.List(); len(l) != 1 || l[0] != entry(k, 3, 0) {
			t.Fatalf("behind Learn(%v, 3) List tells %+v", k, l)
		}
	}
	for c := range 256 {
		f := fdb.New(1, 1)
		e := entry(fdb.Key{Vid: 1, Mac: addr.MAC{byte(c), 1, 1, 1, 1, 1}}, 3, 0)
		learns(t, f, e.Key, 3)
		if c&1 == 1 {
			holds(t, f)
			lacks(t, f, e.Key)
		} else {
			holds(t, f, e)
		}
	}
}

// P9.1: also where the key is there, and where there is no room.
func TestLearnOfNothing(t *testing.T) {
	l := []fdb.Entry{entry(key(1, 2), 3, 4), entry(key(1, 4), 5, 6)}
	for _, most := range []int{2, 3} {
		f := with(t, most, 9, l...)
		for _, m := range groups {
			for port := -1; port < 19; port++ {
				learns(t, f, fdb.Key{Vid: 1, Mac: m}, port)
				lacks(t, f, fdb.Key{Vid: 1, Mac: m})
			}
		}
		for _, port := range noPorts {
			learns(t, f, key(1, 2), port)
			learns(t, f, key(1, 6), port)
			lacks(t, f, key(1, 6))
		}
		holds(t, f, l...)
	}
}

// P9.1: the oldest one goes, of several the one with the least key; many times, as what a map tells first may differ each time.
func TestLearnWithoutRoom(t *testing.T) {
	for _, c := range []struct {
		l    []fdb.Entry
		gone int
	}{
		{[]fdb.Entry{entry(key(1, 2), 3, 0)}, 0},
		{[]fdb.Entry{entry(key(1, 2), 3, 0), entry(key(1, 4), 3, 1), entry(key(1, 6), 3, 0)}, 1},
		{[]fdb.Entry{entry(key(1, 2), 3, 7), entry(key(1, 4), 4, 8), entry(key(2, 6), 3, 8)}, 1},
		{[]fdb.Entry{entry(key(1, 2), 3, 7), entry(key(1, 4), 3, 6), entry(key(2, 6), 3, 8)}, 2},
		{[]fdb.Entry{entry(key(1, 4), 3, 0), entry(key(1, 6), 1, 0), entry(key(2, 2), 5, 0)}, 0},
		{[]fdb.Entry{entry(key(1, 0x200), 3, 5), entry(key(2, 1), 1, 5), entry(key(3, 0), 5, 5)}, 0},
		{[]fdb.Entry{entry(key(1, 0xFF), 9, 5), entry(key(1, 0x100), 1, 5), entry(key(1, 0x20000000000), 5, 5)}, 0},
		{[]fdb.Entry{entry(key(1, 0), 9, 1), entry(key(1, 0x100), 9, 5), entry(key(1, 0x20000000000), 1, 5)}, 1},
	} {
		for range 30 {
			f := with(t, len(c.l), 9, c.l...)
			if gone, ok := f.Learn(key(1, 8), 2); gone != c.l[c.gone] || !ok {
				t.Fatalf("Learn to %+v = %+v, %v, want the %dth", c.l, gone, ok, c.gone)
			}
			want := append(slices.Delete(slices.Clone(c.l), c.gone, c.gone+1), entry(key(1, 8), 2, 0))
			slices.SortFunc(want, byKey)
			holds(t, f, want...)
			lacks(t, f, c.l[c.gone].Key)
		}
	}
}

// byKey orders entries, told apart from what is tested.
func byKey(a, b fdb.Entry) int {
	return cmp.Or(cmp.Compare(a.Vid, b.Vid), slices.Compare(a.Mac[:], b.Mac[:]))
}

// P9.1: what is seen again is there, so none goes for it, room or not.
func TestLearnAgainWithoutRoom(t *testing.T) {
	f := with(t, 2, 9, entry(key(1, 2), 3, 8), entry(key(1, 4), 3, 5))
	learns(t, f, key(1, 4), 6)
	learns(t, f, key(1, 2), 4)
	holds(t, f, entry(key(1, 2), 4, 0), entry(key(1, 4), 6, 0))
}

// P9.1, and the example: with room for one only, each one goes for the next one.
func TestLearnOneByOne(t *testing.T) {
	f := fdb.New(1, 9)
	learns(t, f, key(1, 2), 3)
	for i, k := range []fdb.Key{key(1, 4), key(1, 2), key(0, 2), key(9, 0)} {
		was := f.List()
		if gone, ok := f.Learn(k, 5+i); !ok || gone != was[0] {
			t.Errorf("Learn(%v, %d) = %+v, %v, want %+v, true", k, 5+i, gone, ok, was[0])
		}
		holds(t, f, entry(k, 5+i, 0))
	}
}

// P9.2
func TestTick(t *testing.T) {
	f := with(t, 8, 4, entry(key(1, 2), 3, 3), entry(key(1, 4), 3, 0), entry(key(1, 6), 4, 2), entry(key(1, 8), 5, 3), entry(key(2, 2), 3, 1))
	if got := f.Tick(); got != 2 {
		t.Errorf("Tick = %d, want 2", got)
	}
	holds(t, f, entry(key(1, 4), 3, 1), entry(key(1, 6), 4, 3), entry(key(2, 2), 3, 2))
	lacks(t, f, key(1, 2), key(1, 8))
	learns(t, f, key(1, 6), 4) // seen in time
	if got := f.Tick(); got != 0 {
		t.Errorf("Tick = %d, want 0", got)
	}
	holds(t, f, entry(key(1, 4), 3, 2), entry(key(1, 6), 4, 1), entry(key(2, 2), 3, 3))
	for i, want := range []int{1, 1, 1, 0, 0} {
		if got := f.Tick(); got != want {
			t.Errorf("the %dth Tick = %d, want %d", i, got, want)
		}
	}
	holds(t, f)
	learns(t, f, key(1, 2), 3) // ticks that went by without it don't count
	holds(t, f, entry(key(1, 2), 3, 0))
}

// P9.2
func TestFlush(t *testing.T) {
	l := []fdb.Entry{entry(key(1, 2), 3, 3), entry(key(1, 4), 1, 0), entry(key(1, 6), 3, 2), entry(key(2, 2), 16, 1), entry(key(5, 2), 3, 0)}
	f := with(t, 5, 4, l...)
	for _, port := range append(noPorts, 2, 5, 15) {
		if got := f.Flush(port); got != 0 {
			t.Errorf("Flush(%d) = %d, want 0", port, got)
		}
	}
	holds(t, f, l...)
	for _, c := range []struct{ port, want int }{{3, 3}, {3, 0}, {16, 1}, {16, 0}} {
		if got := f.Flush(c.port); got != c.want {
			t.Errorf("Flush(%d) = %d, want %d", c.port, got, c.want)
		}
	}
	holds(t, f, l[1])
	lacks(t, f, key(1, 2), key(1, 6), key(5, 2), key(2, 2))
	learns(t, f, key(1, 2), 3)
	holds(t, f, entry(key(1, 2), 3, 0), l[1])
	if got := f.Flush(1) + f.Flush(3); got != 2 {
		t.Errorf("Flush of all that are left: %d", got)
	}
	holds(t, f)
}

// P9.2
func TestDrop(t *testing.T) {
	l := []fdb.Entry{entry(key(0, 2), 3, 3), entry(key(1, 4), 5, 0), entry(key(1, 6), 3, 2), entry(key(2, 2), 1, 1), entry(key(65535, 2), 3, 0)}
	f := with(t, 5, 4, l...)
	for _, vid := range []uint16{3, 4, 5, 257, 4094, 4097, 65534} {
		if got := f.Drop(vid); got != 0 {
			t.Errorf("Drop(%d) = %d, want 0", vid, got)
		}
	}
	holds(t, f, l...)
	for _, c := range []struct {
		vid  uint16
		want int
	}{{1, 2}, {1, 0}, {0, 1}, {0, 0}, {65535, 1}} {
		if got := f.Drop(c.vid); got != c.want {
			t.Errorf("Drop(%d) = %d, want %d", c.vid, got, c.want)
		}
	}
	holds(t, f, l[3])
	lacks(t, f, key(1, 4), key(1, 6), key(0, 2), key(65535, 2))
	if got := f.Drop(2); got != 1 {
		t.Errorf("Drop(2) = %d, want 1", got)
	}
	holds(t, f)
}

// P9.2: of many, all are gone at once.
func TestGoneOfMany(t *testing.T) {
	full := func() *fdb.Fdb {
		f := fdb.New(64, 3)
		for i := range 64 {
			learns(t, f, key(uint16(i%4), uint64(i)), 1+i%2)
		}
		return f
	}
	if f := full(); f.Flush(2) != 32 || len(f.List()) != 32 {
		t.Error("Flush")
	}
	if f := full(); f.Drop(3) != 16 || len(f.List()) != 48 {
		t.Error("Drop")
	}
	if f := full(); f.Tick() != 0 || f.Tick() != 0 || len(f.List()) != 64 || f.Tick() != 64 || len(f.List()) != 0 {
		t.Error("Tick")
	}
}

// P9.2
func TestPut(t *testing.T) {
	f := fdb.New(3, 9)
	a, b, c := entry(key(1, 2), 3, 8), entry(key(0, 4), 16, 0), entry(key(65535, 0xFEFFFFFFFFFF), 1, 5)
	for _, e := range []fdb.Entry{a, b, c} {
		if !f.Put(e) {
			t.Errorf("Put(%+v) = false", e)
		}
	}
	holds(t, f, b, a, c)
	if f.Put(entry(key(1, 4), 3, 8)) {
		t.Error("there was room for a fourth one of three")
	}
	holds(t, f, b, a, c)
	for _, e := range []fdb.Entry{entry(a.Key, 5, 0), entry(a.Key, 5, 8), entry(a.Key, 1, 3)} { // in its place, older or younger
		if !f.Put(e) {
			t.Errorf("Put(%+v) in its own place = false", e)
		}
		holds(t, f, b, e, c)
	}
	if f.Flush(1) != 2 || !f.Put(a) || !f.Put(entry(key(1, 4), 3, 8)) {
		t.Error("there is room behind a Flush")
	}
	holds(t, f, b, a, entry(key(1, 4), 3, 8))
}

// wrongOf entries by themselves, where Ages below 9 may be.
func wrongOf(k fdb.Key) []fdb.Entry {
	var l []fdb.Entry
	for _, port := range noPorts {
		l = append(l, entry(k, port, 0), entry(k, port, 8), entry(k, port, 9))
	}
	for _, age := range []int{math.MinInt, math.MinInt32, -2, -1, 9, 10, 1000, 1 << 32, math.MaxInt} {
		l = append(l, entry(k, 1, age), entry(k, 16, age))
	}
	for _, m := range groups {
		g := fdb.Key{Vid: k.Vid, Mac: m}
		l = append(l, entry(g, 1, 0), entry(g, 16, 8), entry(g, 17, 9))
	}
	return l
}

// P9.2: also in another one's place, and where there is no room.
func TestPutOfWrong(t *testing.T) {
	l := []fdb.Entry{entry(key(1, 2), 3, 4), entry(key(1, 4), 5, 6)}
	for _, most := range []int{2, 3} {
		f := with(t, most, 9, l...)
		for _, k := range []fdb.Key{l[0].Key, l[1].Key, key(1, 6), key(9, 0)} {
			for _, e := range wrongOf(k) {
				if f.Put(e) {
					t.Errorf("Put(%+v) = true", e)
				}
			}
		}
		holds(t, f, l...)
		lacks(t, f, key(1, 6), key(9, 0))
	}
}

// P9.2: every port and every age.
func TestPutOfEvery(t *testing.T) {
	for port := 1; port <= api.MaxPorts; port++ {
		for age := -3; age < 1003; age++ {
			f := fdb.New(1, 1000)
			e := entry(key(1, 2), port, age)
			want := age >= 0 && age < 1000
			if got := f.Put(e); got != want {
				t.Fatalf("Put(%+v) = %v, want %v", e, got, want)
			}
			if want {
				holds(t, f, e)
			} else {
				holds(t, f)
			}
		}
	}
}

// P9.2: many times, as what a map tells first may differ each time.
func TestListOrder(t *testing.T) {
	var want []fdb.Entry
	for i, k := range rising {
		want = append(want, entry(k, 1+i%16, i%9))
	}
	for turn := range want {
		f := with(t, 64, 9, slices.Concat(want[turn:], want[:turn])...)
		for range 5 {
			holds(t, f, want...)
		}
	}
}

// P9.2, and the rule that an answer is new memory.
func TestListIsNew(t *testing.T) {
	a, b := entry(key(1, 2), 3, 4), entry(key(1, 4), 5, 6)
	f := with(t, 4, 9, b, a)
	l, other := f.List(), f.List()
	l[0], l[1].Port = entry(key(9, 8), 7, 6), 1
	_ = append(l[:1], b, b)
	if !slices.Equal(other, []fdb.Entry{a, b}) {
		t.Errorf("another list tells %+v", other)
	}
	holds(t, f, a, b)
	f.Tick()
	f.Flush(3)
	if !slices.Equal(other, []fdb.Entry{a, b}) {
		t.Errorf("behind a Tick and a Flush that list tells %+v", other)
	}
}

// P9.1, P9.2
func TestNil(t *testing.T) {
	var f *fdb.Fdb
	for _, k := range append(slices.Clone(rising), fdb.Key{Mac: addr.MAC{1}}) {
		for _, port := range append(noPorts, 1, 16) {
			learns(t, f, k, port)
			if f.Put(entry(k, port, 0)) {
				t.Errorf("Put of nil = true")
			}
			if got := f.Flush(port); got != 0 {
				t.Errorf("Flush(%d) of nil = %d", port, got)
			}
		}
		lacks(t, f, k)
		if got := f.Drop(k.Vid); got != 0 {
			t.Errorf("Drop(%d) of nil = %d", k.Vid, got)
		}
	}
	if got := f.Tick(); got != 0 {
		t.Errorf("Tick of nil = %d", got)
	}
	holds(t, f)
}
