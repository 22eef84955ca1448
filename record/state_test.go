package record_test

import (
	"reflect"
	"slices"
	"testing"

	"girder/count"
	"girder/fdb"
	"girder/record"
	"girder/static"
	"girder/vlan"
)

// numbers of a value: each number and flag in it, field by field and element by element, with the way to it.
func numbers(v reflect.Value, way string, see func(way string, v reflect.Value)) {
	switch v.Kind() {
	case reflect.Struct:
		for i := range v.NumField() {
			numbers(v.Field(i), way+"."+v.Type().Field(i).Name, see)
		}
	case reflect.Array, reflect.Slice:
		for i := range v.Len() {
			numbers(v.Index(i), way+"["+string(rune('a'+i))+"]", see)
		}
	default:
		see(way, v)
	}
}

// turned: the lowest bit of a number, or a flag.
func turned(v reflect.Value) {
	switch {
	case v.Kind() == reflect.Bool:
		v.SetBool(!v.Bool())
	case v.CanInt():
		v.SetInt(v.Int() ^ 1)
	default:
		v.SetUint(v.Uint() ^ 1)
	}
}

// raised: the highest bit of a number is turned, or a flag.
func raised(v reflect.Value) {
	switch {
	case v.Kind() == reflect.Bool:
		v.SetBool(!v.Bool())
	case v.CanInt():
		v.SetInt(v.Int() ^ -1<<(v.Type().Bits()-1))
	default:
		v.SetUint(v.Uint() ^ 1<<(v.Type().Bits()-1))
	}
}

// same as it should be, whichever way round.
func same(t *testing.T, what string, a, b record.State, want bool) {
	t.Helper()
	if record.Same(a, b) != want || record.Same(b, a) != want {
		t.Errorf("%s: Same tells %v, %v, want %v", what, record.Same(a, b), record.Same(b, a), want)
	}
}

// P14.1: states that are the same, also where they are other memory.
func TestSame(t *testing.T) {
	for range 3 {
		same(t, "full", full(), full(), true)
		same(t, "zero", record.State{}, record.State{}, true)
		same(t, "full and zero", full(), record.State{}, false)
	}
	s := full()
	same(t, "itself", s, s, true)
}

// P14.1: each number and each flag of a state counts, wherever it stands, and each bit of it.
func TestSameOfEachField(t *testing.T) {
	for _, turn := range []func(reflect.Value){turned, raised} {
		n := 0
		s := full()
		numbers(reflect.ValueOf(&s).Elem(), "state", func(way string, v reflect.Value) {
			n++
			was := reflect.New(v.Type()).Elem()
			was.Set(v)
			turn(v)
			same(t, way, s, full(), false)
			v.Set(was)
			same(t, way, s, full(), true)
		})
		if want := 6 + 3*(3+7+3+4+4) + 3*3 + 3*(1+6+1) + 3*(1+6+2) + 14 + 1; n != want {
			t.Errorf("a state has %d numbers and flags, want %d", n, want)
		}
	}
}

// shapes of a list of three elements that aren't the list itself.
func shapes[E any](l []E) map[string][]E {
	return map[string][]E{
		"none":       nil,
		"one":        {l[0]},
		"two":        {l[0], l[1]},
		"the last":   {l[1], l[2]},
		"four":       {l[0], l[1], l[2], l[2]},
		"turned":     {l[2], l[1], l[0]},
		"rolled":     {l[1], l[2], l[0]},
		"doubled":    {l[0], l[1], l[1]},
		"all twice":  {l[0], l[1], l[2], l[0], l[1], l[2]},
		"with zero":  append(slices.Clone(l), *new(E)),
		"after zero": append(make([]E, 1), l...),
	}
}

// P14.1: lists count one by one: how many there are, and their order.
func TestSameOfLists(t *testing.T) {
	s := full()
	for what, l := range shapes(s.Ports) {
		o := full()
		o.Ports = l
		same(t, "ports: "+what, s, o, false)
	}
	for what, l := range shapes(s.Vlans) {
		o := full()
		o.Vlans = l
		same(t, "vlans: "+what, s, o, false)
	}
	for what, l := range shapes(s.Static) {
		o := full()
		o.Static = l
		same(t, "static: "+what, s, o, false)
	}
	for what, l := range shapes(s.Fdb) {
		o := full()
		o.Fdb = l
		same(t, "fdb: "+what, s, o, false)
	}
}

// emptied lists, of no room or of some, in which something stands.
func emptied(s record.State) record.State {
	s.Ports, s.Vlans, s.Static, s.Fdb = s.Ports[:0], s.Vlans[:0], s.Static[:0], s.Fdb[:0]
	return s
}

// without lists at all.
func without(s record.State) record.State {
	s.Ports, s.Vlans, s.Static, s.Fdb = nil, nil, nil, nil
	return s
}

// P14.1: nil and empty are the same, and what is behind a list's length doesn't count.
func TestSameOfEmptyLists(t *testing.T) {
	made := without(full())
	made.Ports, made.Vlans, made.Static, made.Fdb = []record.Port{}, []vlan.Vlan{}, []static.Entry{}, []fdb.Entry{}
	same(t, "nil and empty", without(full()), made, true)
	same(t, "nil and emptied", without(full()), emptied(full()), true)
	same(t, "empty and emptied", made, emptied(full()), true)
	same(t, "empty and full", made, full(), false)
	s, o := full(), full()
	s.Ports, o.Ports = append(s.Ports, busy(9))[:3], append(o.Ports, busy(8))[:3]
	s.Fdb = append(s.Fdb, learnt(9))[:3]
	same(t, "room behind", s, o, true)
}

// coldOf full: what the chapter keeps, spelt out.
func coldOf() record.State {
	s := record.State{Config: config(), Vlans: full().Vlans, Static: full().Static}
	for _, p := range full().Ports {
		s.Ports = append(s.Ports, record.Port{Port: p.Port, Cost: p.Cost, Priority: p.Priority, Edge: true, Admin: true, Up: true})
	}
	return s
}

// cold of a state is what it should be, and leaves it as it was.
func cold(t *testing.T, s, want record.State) {
	t.Helper()
	was := copied(s)
	for range 2 {
		if got := s.Cold(); !alike(got, want) {
			t.Errorf("Cold tells %+v, want %+v", got, want)
		}
	}
	if !alike(s, was) {
		t.Errorf("Cold changed %+v to %+v", was, s)
	}
}

// copied state, by plain means.
func copied(s record.State) record.State {
	s.Ports = append([]record.Port(nil), s.Ports...)
	s.Vlans = append([]vlan.Vlan(nil), s.Vlans...)
	s.Static = append([]static.Entry(nil), s.Static...)
	s.Fdb = append([]fdb.Entry(nil), s.Fdb...)
	return s
}

// alike: two states whose fields are the same, those behind nil and empty lists as well.
func alike(a, b record.State) bool {
	return reflect.DeepEqual(copied(a), copied(b))
}

// P14.1: what is kept, and what is zero.
func TestCold(t *testing.T) {
	cold(t, full(), coldOf())
	cold(t, coldOf(), coldOf()) // what is cold already stays so
	cold(t, record.State{}, record.State{})
	cold(t, without(full()), record.State{Config: config()})
	cold(t, emptied(full()), record.State{Config: config()})
	cold(t, record.State{Beat: 5, Counts: count.Counts{1}, Fdb: full().Fdb}, record.State{})
}

// P14.1: what a port is set to, and how it is, each alone and by itself.
func TestColdOfEachField(t *testing.T) {
	kept := map[string]bool{".Port.Pvid": true, ".Port.Accept": true, ".Port.Filter": true, ".Cost": true, ".Priority": true, ".Edge": true, ".Admin": true, ".Up": true}
	var p record.Port
	seen := 0
	numbers(reflect.ValueOf(&p).Elem(), "", func(way string, v reflect.Value) {
		for _, turn := range []func(reflect.Value){turned, raised} {
			v.SetZero()
			turn(v)
			want := record.Port{}
			if kept[way] {
				want = p
			}
			l := record.State{Ports: []record.Port{{}, p, {}}}.Cold().Ports
			if len(l) != 3 || l[0] != (record.Port{}) || l[1] != want || l[2] != (record.Port{}) {
				t.Errorf("%s: Cold tells %+v, want %+v at 1", way, l, want)
			}
		}
		v.SetZero()
		if kept[way] {
			seen++
		}
	})
	if seen != len(kept) {
		t.Errorf("%d fields are kept, want %d", seen, len(kept))
	}
}

// P14.1: ports keep their places, of any number.
func TestColdOfPorts(t *testing.T) {
	var s, want record.State
	for n := range 40 {
		p := busy(n)
		p.Up, p.Admin, p.Edge = n%2 == 0, n%3 == 0, n%5 == 0
		s.Ports = append(s.Ports, p)
		want.Ports = append(want.Ports, record.Port{Port: p.Port, Cost: p.Cost, Priority: p.Priority, Edge: p.Edge, Admin: p.Admin, Up: p.Up})
		cold(t, s, want)
	}
}

// P14.1: a clone is the same, field by field.
func TestClone(t *testing.T) {
	for _, s := range []record.State{full(), {}, coldOf(), without(full()), emptied(full()), {Ports: []record.Port{busy(1)}}, {Beat: -1}} {
		was := copied(s)
		for range 2 {
			if c := s.Clone(); !alike(c, was) || !record.Same(c, s) {
				t.Errorf("Clone tells %+v, want %+v", c, was)
			}
		}
		if !alike(s, was) {
			t.Errorf("Clone changed %+v to %+v", was, s)
		}
	}
}

// P14.1: lists of clones and of cold states are new memory: what is done to one isn't to be seen in another one.
func TestNewMemory(t *testing.T) {
	for what, answer := range map[string]func(record.State) record.State{"Clone": record.State.Clone, "Cold": record.State.Cold} {
		s := full()
		first, second := answer(s), answer(s)
		want := copied(first)
		spoil(&second)
		if !alike(first, want) || !alike(s, full()) {
			t.Errorf("%s: a second answer shares memory", what)
		}
		spoil(&s)
		if !alike(first, want) {
			t.Errorf("%s: the answer shares memory with the state", what)
		}
		s = full()
		spoil(&first)
		if !alike(s, full()) {
			t.Errorf("%s: the state shares memory with the answer", what)
		}
	}
}

// spoil all elements of a state's lists, and the room behind them.
func spoil(s *record.State) {
	clear(s.Ports[:cap(s.Ports)])
	clear(s.Vlans[:cap(s.Vlans)])
	clear(s.Static[:cap(s.Static)])
	clear(s.Fdb[:cap(s.Fdb)])
}

// P14.1: what an answer is lengthened by isn't to be seen behind the lists of the state.
func TestRoomBehind(t *testing.T) {
	for what, answer := range map[string]func(record.State) record.State{"Clone": record.State.Clone, "Cold": record.State.Cold} {
		for length := range 3 {
			s := full()
			s.Ports, s.Vlans, s.Static, s.Fdb = s.Ports[:length], s.Vlans[:length], s.Static[:length], s.Fdb[:length]
			c := answer(s)
			c.Ports, c.Vlans = append(c.Ports, busy(9)), append(c.Vlans, of(9))
			c.Static, c.Fdb = append(c.Static, laid(9)), append(c.Fdb, learnt(9))
			spoil(&c)
			s.Ports, s.Vlans, s.Static, s.Fdb = s.Ports[:3], s.Vlans[:3], s.Static[:3], s.Fdb[:3]
			if !alike(s, full()) {
				t.Errorf("%s of %d elements: the room behind them was changed: %+v", what, length, s)
			}
		}
	}
}

// P14.1: calls keep nothing: what is asked of a state between others is as if it were asked alone.
func TestKeepsNothing(t *testing.T) {
	s := full()
	c := s.Clone()
	s.Beat++
	s.Counts.Add(count.Told, 1)
	s.Ports[0].Up = false
	same(t, "changed since", s, c, false)
	want := coldOf()
	want.Ports[0].Up = false
	cold(t, s, want)
	cold(t, c, coldOf())
	same(t, "the clone", c, full(), true)
}

// P14.1: the shown fields are all, and types that have no lists may be held against one another.
func TestFields(t *testing.T) {
	if (record.Config{ID: 1}) == (record.Config{}) || busy(1) != busy(1) || busy(1) == busy(2) {
		t.Error("configs or ports are wrongly the same")
	}
	_ = record.Config{1, 2, 3, 4, 5, 6}
	p := busy(1)
	if q := (record.Port{p.Port, 20001, 9, true, true, true, true, true, 3, 2, 2, p.Vector, 12, 13, 14, 15}); p != q {
		t.Errorf("%+v, want %+v", q, p)
	}
	s := full()
	if o := (record.State{config(), s.Ports, s.Vlans, s.Static, s.Fdb, s.Counts, 77}); !alike(s, o) {
		t.Errorf("%+v, want %+v", o, s)
	}
}
