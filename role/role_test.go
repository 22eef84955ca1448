package role_test

import (
	"math"
	"reflect"
	"slices"
	"testing"

	"girder/addr"
	"girder/record"
	"girder/role"
	"girder/vector"
)

// of numbers: a vector.
func of(root addr.ID, cost uint32, bridge addr.ID, port uint16) vector.Vector {
	return vector.Vector{Root: root, Cost: cost, Bridge: bridge, Port: port}
}

// deaf port: on, and heard nothing.
func deaf(id uint16) role.Port {
	return role.Port{On: true, ID: id, Cost: 1}
}

// hears: a port that heard a vector.
func hears(v vector.Vector, cost uint32, id uint16) role.Port {
	return role.Port{On: true, Heard: true, Vector: v, Cost: cost, ID: id}
}

// off: the port, not on.
func off(p role.Port) role.Port {
	p.On = false
	return p
}

// unheard: the port, of which what stands in its Vector wasn't heard.
func unheard(p role.Port) role.Port {
	p.Heard = false
	return p
}

// chosen is what it should be, each time; what each port tells follows from the root and the cost.
func chosen(t *testing.T, what string, self addr.ID, l []role.Port, root addr.ID, cost uint32, port int, roles ...int) {
	t.Helper()
	want := role.Choice{Root: root, Cost: cost, Port: port, Roles: roles}
	for _, p := range l {
		want.Tells = append(want.Tells, of(root, cost, self, p.ID))
	}
	was := slices.Clone(l)
	for range 2 {
		if got := role.Choose(self, l); !alike(got, want) {
			t.Errorf("%s: Choose(%d, %+v)\ntells %+v\nwant  %+v", what, self, l, got, want)
		}
	}
	if !slices.Equal(l, was) {
		t.Errorf("%s: Choose changed %+v to %+v", what, was, l)
	}
}

// alike: the same choices, nil and empty lists being the same.
func alike(a, b role.Choice) bool {
	return a.Root == b.Root && a.Cost == b.Cost && a.Port == b.Port && slices.Equal(a.Roles, b.Roles) && slices.Equal(a.Tells, b.Tells)
}

// P15.1, the example: nothing was heard.
func TestNothingHeard(t *testing.T) {
	chosen(t, "no ports", 9, nil, 9, 0, 0)
	chosen(t, "no ports", 9, []role.Port{}, 9, 0, 0)
	chosen(t, "one", 9, []role.Port{deaf(1)}, 9, 0, 0, record.Designated)
	chosen(t, "some", 9, []role.Port{deaf(1), off(deaf(2)), deaf(3)}, 9, 0, 0, record.Designated, record.Disabled, record.Designated)
	chosen(t, "the ID 0", 0, []role.Port{deaf(1)}, 0, 0, 0, record.Designated)
	chosen(t, "the greatest ID", math.MaxUint64, []role.Port{deaf(1)}, math.MaxUint64, 0, 0, record.Designated)
}

// P15.1: a vector that wasn't heard, or at a port that isn't on, is no way, however good it is; nor does it make a port one that waits.
func TestNoWays(t *testing.T) {
	good := hears(of(1, 0, 2, 1), 1, 1)
	chosen(t, "off", 9, []role.Port{off(good)}, 9, 0, 0, record.Disabled)
	chosen(t, "unheard", 9, []role.Port{unheard(good)}, 9, 0, 0, record.Designated)
	chosen(t, "off, unheard", 9, []role.Port{off(unheard(good))}, 9, 0, 0, record.Disabled)
	chosen(t, "its own", 9, []role.Port{hears(of(1, 0, 9, 7), 1, 1)}, 9, 0, 0, record.Backup)
	chosen(t, "its own, off", 9, []role.Port{off(hears(of(1, 0, 9, 7), 1, 1))}, 9, 0, 0, record.Disabled)
	chosen(t, "beside a way", 9, []role.Port{off(good), unheard(good), hears(of(1, 0, 9, 7), 1, 1), hears(of(5, 3, 6, 1), 4, 4)}, 5, 7, 4,
		record.Disabled, record.Designated, record.Backup, record.Root)
}

// P15.1: a root that is less than the bridge's own ID, the same, and greater.
func TestRootOfTheBest(t *testing.T) {
	chosen(t, "less", 9, []role.Port{hears(of(8, 5, 8, 1), 2, 1)}, 8, 7, 1, record.Root)
	chosen(t, "the same", 9, []role.Port{hears(of(9, 0, 8, 1), 2, 1)}, 9, 0, 0, record.Alternate)
	chosen(t, "greater", 9, []role.Port{hears(of(10, 0, 8, 1), 2, 1)}, 9, 0, 0, record.Designated)
	chosen(t, "0", 1, []role.Port{hears(of(0, 0, 0, 0), 0, 0)}, 0, 0, 1, record.Root)
	chosen(t, "0 of 0", 0, []role.Port{hears(of(0, 0, 1, 0), 0, 0)}, 0, 0, 0, record.Designated)
	chosen(t, "below the greatest", math.MaxUint64, []role.Port{hears(of(math.MaxUint64-1, 1, 3, 1), 1, 1)}, math.MaxUint64-1, 2, 1, record.Root)
	chosen(t, "above the half", 1<<63, []role.Port{hears(of(1<<63-1, 1, 3, 1), 1, 1)}, 1<<63-1, 2, 1, record.Root)
	chosen(t, "above the half, worse", 1<<63-1, []role.Port{hears(of(1<<63, 1, 3, 1), 1, 1)}, 1<<63-1, 0, 0, record.Designated)
}

// P15.1: the best way, by each of Root, Cost (with the port's), Bridge and Port in turn, then by the least ID, then the first.
func TestBestWay(t *testing.T) {
	for _, c := range []struct {
		what        string
		good, worse role.Port
	}{
		{"root", hears(of(1, 90, 8, 9), 90, 9), hears(of(2, 1, 3, 1), 1, 1)},
		{"cost heard", hears(of(1, 4, 8, 9), 5, 9), hears(of(1, 5, 3, 1), 5, 1)},
		{"cost of the port", hears(of(1, 4, 8, 9), 5, 9), hears(of(1, 4, 3, 1), 6, 1)},
		{"cost in all", hears(of(1, 9, 8, 9), 1, 9), hears(of(1, 2, 3, 1), 9, 1)},
		{"bridge", hears(of(1, 4, 3, 9), 5, 9), hears(of(1, 5, 4, 1), 4, 1)},
		{"port", hears(of(1, 4, 3, 1), 5, 9), hears(of(1, 4, 3, 2), 5, 1)},
		{"the least ID", hears(of(1, 4, 3, 1), 5, 1), hears(of(1, 4, 3, 1), 5, 2)},
		{"the least ID above the half", hears(of(1, 4, 3, 1), 5, 0x7FFF), hears(of(1, 4, 3, 1), 5, 0x8000)},
		{"the greatest cost", hears(of(1, math.MaxUint32-5, 3, 1), 4, 9), hears(of(1, math.MaxUint32, 3, 1), 0, 1)},
		{"above the greatest cost", hears(of(1, math.MaxUint32, 3, 1), 7, 9), hears(of(1, math.MaxUint32, 4, 1), 0, 1)},
	} {
		cost := uint32(min(uint64(c.good.Vector.Cost)+uint64(c.good.Cost), math.MaxUint32))
		for _, between := range [][]role.Port{nil, {deaf(20)}, {off(c.good), deaf(30)}} {
			l := append(append([]role.Port{c.good}, between...), c.worse)
			got := role.Choose(9, l)
			if got.Root != 1 || got.Cost != cost || got.Port != 1 || got.Roles[0] != record.Root {
				t.Errorf("%s: Choose(9, %+v) tells %+v", c.what, l, got)
			}
			slices.Reverse(l)
			got = role.Choose(9, l)
			if got.Root != 1 || got.Cost != cost || got.Port != len(l) || got.Roles[len(l)-1] != record.Root {
				t.Errorf("%s: Choose(9, %+v) tells %+v", c.what, l, got)
			}
		}
	}
}

// P15.1: ways that are the same in all: the first of them.
func TestFirstOfTheSame(t *testing.T) {
	w := hears(of(1, 4, 3, 1), 5, 7)
	chosen(t, "two", 9, []role.Port{w, w}, 1, 9, 1, record.Root, record.Alternate)
	chosen(t, "three behind another", 9, []role.Port{deaf(1), w, w, w}, 1, 9, 2, record.Designated, record.Root, record.Alternate, record.Alternate)
	chosen(t, "the first is off", 9, []role.Port{off(w), w, w}, 1, 9, 2, record.Disabled, record.Root, record.Alternate)
	high := w
	high.ID = 8
	chosen(t, "behind one of a greater ID", 9, []role.Port{high, w, w}, 1, 9, 2, record.Alternate, record.Root, record.Alternate)
}

// P15.1: a way that looks like none: all numbers are 0.
func TestZeroWay(t *testing.T) {
	w := hears(vector.Vector{}, 0, 0)
	chosen(t, "alone", 9, []role.Port{w}, 0, 0, 1, record.Root)
	chosen(t, "behind another", 9, []role.Port{hears(of(0, 1, 0, 0), 0, 0), w}, 0, 0, 2, record.Designated, record.Root)
	chosen(t, "ahead of another", 9, []role.Port{w, hears(of(0, 1, 0, 0), 0, 0)}, 0, 0, 1, record.Root, record.Designated)
	chosen(t, "its own", 0, []role.Port{w}, 0, 0, 0, record.Designated)
}

// P15.1: a port that isn't the root port waits, where it heard a vector that is better than what it tells, by each of Root, Cost, Bridge and Port.
func TestWaiting(t *testing.T) {
	root := hears(of(1, 4, 3, 1), 6, 1) // so the others tell {1, 10, 9, 5}
	for _, c := range []struct {
		what string
		v    vector.Vector
		role int
	}{
		{"worse root", of(2, 0, 3, 1), record.Designated},
		{"worse cost", of(1, 11, 3, 1), record.Designated},
		{"worse bridge", of(1, 10, 10, 1), record.Designated},
		{"worse port", of(1, 10, 9, 6), record.Designated},
		{"the same", of(1, 10, 9, 5), record.Designated},
		{"better port", of(1, 10, 9, 4), record.Backup},
		{"better bridge", of(1, 10, 8, 6), record.Alternate},
		{"better cost", of(1, 9, 10, 6), record.Alternate},
		{"better cost, its own", of(1, 9, 9, 6), record.Backup},
		{"better root, its own", of(0, 99, 9, 6), record.Backup},
		{"worse cost, its own", of(1, 11, 9, 1), record.Designated},
		{"worse root, its own", of(2, 0, 9, 1), record.Designated},
	} {
		for _, cost := range []uint32{0, 100, math.MaxUint32} { // the port's cost counts for ways alone
			p := hears(c.v, cost, 5)
			if c.v.Bridge != 9 && cost+c.v.Cost < 10 {
				continue // it would be the root port itself
			}
			chosen(t, c.what, 9, []role.Port{root, p}, 1, 10, 1, record.Root, c.role)
			chosen(t, c.what+", ahead", 9, []role.Port{p, root}, 1, 10, 2, c.role, record.Root)
			chosen(t, c.what+", off", 9, []role.Port{root, off(p)}, 1, 10, 1, record.Root, record.Disabled)
			chosen(t, c.what+", unheard", 9, []role.Port{root, unheard(p)}, 1, 10, 1, record.Root, record.Designated)
		}
	}
}

// P15.1: a bridge that is the root itself, and hears itself at other ports.
func TestHearsItself(t *testing.T) {
	chosen(t, "lower port", 9, []role.Port{deaf(1), hears(of(9, 0, 9, 1), 1, 2)}, 9, 0, 0, record.Designated, record.Backup)
	chosen(t, "each other", 9, []role.Port{hears(of(9, 0, 9, 2), 1, 1), hears(of(9, 0, 9, 1), 1, 2)}, 9, 0, 0, record.Designated, record.Backup)
	chosen(t, "itself", 9, []role.Port{hears(of(9, 0, 9, 1), 1, 1)}, 9, 0, 0, record.Designated)
	chosen(t, "at a cost", 9, []role.Port{hears(of(9, 1, 9, 1), 1, 2)}, 9, 0, 0, record.Designated)
	chosen(t, "another one of a worse way", 9, []role.Port{hears(of(9, 0, 7, 1), 1, 2)}, 9, 0, 0, record.Alternate)
}

// P15.1: the greatest cost stays what it is, and is told.
func TestGreatestCost(t *testing.T) {
	chosen(t, "at it", 9, []role.Port{hears(of(1, math.MaxUint32-1, 3, 1), 1, 1), deaf(2)}, 1, math.MaxUint32, 1, record.Root, record.Designated)
	chosen(t, "above it", 9, []role.Port{hears(of(1, math.MaxUint32, 3, 1), math.MaxUint32, 1), deaf(2)}, 1, math.MaxUint32, 1, record.Root, record.Designated)
	chosen(t, "above it, two", 9, []role.Port{hears(of(1, 5, 3, 2), math.MaxUint32, 1), hears(of(1, 7, 3, 1), math.MaxUint32, 2)}, 1, math.MaxUint32, 2,
		record.Alternate, record.Root)
}

// P15.1: each port tells its own ID, whatever it is; IDs needn't be unlike.
func TestTells(t *testing.T) {
	l := []role.Port{deaf(0xFFFF), off(deaf(0)), hears(of(1, 3, 2, 9), 4, 0x8003), hears(of(1, 2, 7, 9), 9, 5), deaf(5), off(hears(of(0, 0, 0, 0), 0, 6))}
	chosen(t, "tells", 9, l, 1, 7, 3, record.Designated, record.Disabled, record.Root, record.Alternate, record.Designated, record.Disabled)
	for i, want := range []uint16{0xFFFF, 0, 0x8003, 5, 5, 6} {
		if got := role.Choose(9, l).Tells[i]; got != of(1, 7, 9, want) {
			t.Errorf("port %d tells %+v", i+1, got)
		}
	}
}

// P15.1: any number of ports, the root port at each place.
func TestEachPlace(t *testing.T) {
	for n := 1; n <= 40; n++ {
		for at := range n {
			var l []role.Port
			var roles []int
			for i := range n {
				l, roles = append(l, deaf(uint16(i+1))), append(roles, record.Designated)
			}
			l[at], roles[at] = hears(of(1, 1, 2, 3), 1, uint16(at+1)), record.Root
			chosen(t, "place", 9, l, 1, 2, at+1, roles...)
		}
	}
}

// P15.1: the choice is new memory, and what is asked doesn't hang on what was asked before.
func TestNewMemory(t *testing.T) {
	l := []role.Port{hears(of(1, 3, 2, 9), 4, 1), deaf(2)}
	first, second := role.Choose(9, l[:1]), role.Choose(9, l[:1])
	clear(second.Roles[:cap(second.Roles)])
	clear(second.Tells[:cap(second.Tells)])
	if first.Roles[0] != record.Root || first.Tells[0] != of(1, 7, 9, 1) {
		t.Errorf("two answers share memory: %+v", first)
	}
	if l[1] != deaf(2) {
		t.Errorf("the room behind the list was changed: %+v", l[1])
	}
	chosen(t, "once more", 9, l, 1, 7, 1, record.Root, record.Designated)
}

// P15.1: the shown fields are all, in their order.
func TestFields(t *testing.T) {
	p := hears(of(1, 2, 3, 4), 5, 6)
	if q := (role.Port{true, true, of(1, 2, 3, 4), 5, 6}); p != q || p == off(p) {
		t.Errorf("%+v, want %+v", q, p)
	}
	c := role.Choice{1, 7, 1, []int{record.Root}, []vector.Vector{of(1, 7, 9, 6)}}
	if got := role.Choose(9, []role.Port{p}); !reflect.DeepEqual(got, c) {
		t.Errorf("%+v, want %+v", got, c)
	}
}
