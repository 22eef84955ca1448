package info_test

import (
	"math"
	"reflect"
	"testing"

	"girder/addr"
	"girder/classify"
	"girder/info"
	"girder/record"
	"girder/vector"
)

// of numbers: a vector.
func of(root addr.ID, cost uint32, bridge addr.ID, port uint16) vector.Vector {
	return vector.Vector{Root: root, Cost: cost, Bridge: bridge, Port: port}
}

// held by a port, in these tests, where nothing else is said.
func held() vector.Vector {
	return of(10, 10, 10, 10)
}

// config of a bridge: a heard vector lives 21 ticks.
func config() record.Config {
	return record.Config{ID: 77, MaxAge: 20, Hello: 7, Delay: 15, Room: 64, Live: 300}
}

// busy port: on, and nothing of it is zero.
func busy(from int) record.Port {
	return record.Port{
		Port: classify.Port{Pvid: 5, Accept: classify.Untagged, Filter: true},
		Cost: 20000, Priority: 8, Edge: true, Admin: true, Up: true, Plain: true, Agreed: true,
		Role: record.Designated, State: record.Forwarding, Info: from, Vector: held(),
		Age: 11, Life: 12, Wait: 13, Change: 14,
	}
}

// fresh port: settings alone are not zero, and what is said of it.
func fresh(up, admin bool) record.Port {
	p := busy(record.None)
	return record.Port{Port: p.Port, Cost: p.Cost, Priority: p.Priority, Edge: p.Edge, Up: up, Admin: admin}
}

// hears a vector, and is answered that.
func hears(t *testing.T, what string, p record.Port, v vector.Vector, age int, c record.Config, want record.Port, is int) {
	t.Helper()
	for range 2 {
		if got, n := info.Hear(p, v, age, c); got != want || n != is {
			t.Errorf("%s: Hear(%+v, %+v, %d, %+v)\ntells %+v, %d\nwant  %+v, %d", what, p, v, age, c, got, n, want, is)
		}
	}
}

// taken: the port, by what it heard.
func taken(p record.Port, v vector.Vector, age, life int) record.Port {
	p.Info, p.Vector, p.Age, p.Life = record.Heard, v, age, life
	return p
}

// P16.1: the numbers that the chapter names.
func TestNumbers(t *testing.T) {
	for want, got := range []int{info.Old, info.Worse, info.Same, info.Taken} {
		if got != want {
			t.Errorf("%d is %d", want, got)
		}
	}
}

// P16.1: at a port that isn't on nothing is heard, whatever it has.
func TestHearOff(t *testing.T) {
	for _, from := range []int{record.None, record.Mine, record.Heard} {
		for _, v := range []vector.Vector{held(), of(1, 1, 1, 1), of(99, 9, 10, 10)} {
			for _, links := range [][2]bool{{false, false}, {false, true}, {true, false}} {
				p := busy(from)
				p.Up, p.Admin = links[0], links[1]
				hears(t, "off", p, v, 5, config(), p, info.Old)
			}
		}
	}
}

// P16.1: ages from 0 to one below MaxAge are heard, others aren't, whatever the vector.
func TestHearAges(t *testing.T) {
	for _, c := range []struct {
		most, age int
		young     bool
	}{
		{20, 0, true}, {20, 1, true}, {20, 19, true}, {20, 20, false}, {20, 21, false}, {20, -1, false},
		{20, math.MinInt, false}, {20, math.MaxInt, false}, {6, 5, true}, {6, 6, false}, {40, 39, true}, {40, 40, false},
		{1, 0, true}, {1, 1, false}, {0, 0, false}, {0, -1, false}, {-1, 0, false}, {-1, -2, false}, {-5, -5, false},
		{math.MinInt, 0, false}, {math.MinInt, math.MaxInt, false}, {math.MinInt, math.MinInt, false}, {math.MinInt, -1, false},
		{math.MaxInt, math.MaxInt - 1, true}, {math.MaxInt, math.MaxInt, false}, {math.MaxInt, 0, true}, {1 << 32, 1<<32 - 1, true},
	} {
		k := config()
		k.MaxAge = c.most
		for _, v := range []vector.Vector{held(), of(1, 1, 1, 1), of(99, 9, 10, 10)} {
			p := busy(record.Heard)
			is := info.Taken
			if v == held() {
				is = info.Same
			}
			if c.young {
				hears(t, "young", p, v, c.age, k, taken(p, v, c.age, 21), is)
			} else {
				hears(t, "old", p, v, c.age, k, p, info.Old)
			}
		}
		if !c.young {
			p := busy(record.Heard)
			hears(t, "old and worse", p, of(11, 0, 9, 9), c.age, k, p, info.Old)
		}
	}
}

// others: vectors, and whether they are better than the held one.
func others() map[vector.Vector]bool {
	return map[vector.Vector]bool{
		of(9, 11, 11, 11):  true,
		of(9, 10, 10, 10):  true,
		of(10, 9, 11, 11):  true,
		of(10, 9, 10, 10):  true,
		of(10, 10, 9, 11):  true,
		of(10, 10, 10, 9):  true,
		of(10, 10, 10, 10): false,
		of(10, 10, 10, 11): false,
		of(10, 10, 11, 9):  false,
		of(10, 11, 9, 9):   false,
		of(10, 11, 10, 10): false,
		of(10, 11, 9, 10):  false,
		of(10, 11, 10, 9):  false,
		of(11, 9, 9, 9):    false,
		of(11, 9, 10, 10):  false,
		of(11, 10, 9, 10):  false,
		of(11, 10, 10, 11): false,
		{}:                 true,
		of(math.MaxUint64, math.MaxUint32, math.MaxUint64, math.MaxUint16): false,
		of(math.MaxUint64, math.MaxUint32, 10, 10):                         false,
	}
}

// P16.1: a port that heard one takes better ones from anybody, and worse ones from the same bridge and port alone; Same just where nothing is unlike.
func TestHearAtHeard(t *testing.T) {
	for v, better := range others() {
		p := busy(record.Heard)
		told := v.Bridge == 10 && v.Port == 10
		switch {
		case v == held():
			hears(t, "the same", p, v, 4, config(), taken(p, v, 4, 21), info.Same)
		case better || told:
			hears(t, "better, or told anew", p, v, 4, config(), taken(p, v, 4, 21), info.Taken)
		default:
			hears(t, "worse", p, v, 4, config(), p, info.Worse)
		}
	}
}

// P16.1: a port whose vector is its own takes better ones alone; nobody tells that one anew.
func TestHearAtMine(t *testing.T) {
	for v, better := range others() {
		p := busy(record.Mine)
		if better {
			hears(t, "better than its own", p, v, 4, config(), taken(p, v, 4, 21), info.Taken)
		} else {
			hears(t, "not better than its own", p, v, 4, config(), p, info.Worse)
		}
	}
}

// P16.1: a port that has nothing takes anything, also what stands in its vector already.
func TestHearAtNone(t *testing.T) {
	for v := range others() {
		p := busy(record.None)
		hears(t, "none", p, v, 4, config(), taken(p, v, 4, 21), info.Taken)
		p.Vector = vector.Vector{}
		hears(t, "none, zero", p, v, 4, config(), taken(p, v, 4, 21), info.Taken)
	}
}

// P16.1: where Info is none of the three it is neither None nor Heard: better vectors are taken alone.
func TestHearAtWrongInfo(t *testing.T) {
	for _, from := range []int{-1, 3, 4, 1 << 32, 1<<32 + 2, math.MinInt, math.MaxInt} {
		for v, better := range others() {
			p := busy(from)
			if better {
				hears(t, "better", p, v, 4, config(), taken(p, v, 4, 21), info.Taken)
			} else {
				hears(t, "not better", p, v, 4, config(), p, info.Worse)
			}
		}
	}
}

// P16.1: the life is three times Hello each time, and the age what was told.
func TestHearLife(t *testing.T) {
	for _, hello := range []int{0, 1, 2, 10, 1000, 1 << 40, -1, -7} {
		k := config()
		k.Hello = hello
		for _, life := range []int{0, 1, 6, 100, -3, math.MinInt, math.MaxInt} {
			p := busy(record.Heard)
			p.Life, p.Age = life, 19
			hears(t, "same", p, held(), 0, k, taken(p, held(), 0, 3*hello), info.Same)
			hears(t, "taken", p, of(10, 12, 10, 10), 3, k, taken(p, of(10, 12, 10, 10), 3, 3*hello), info.Taken)
			hears(t, "worse", p, of(10, 12, 10, 11), 3, k, p, info.Worse)
		}
	}
}

// P16.1: what else a port is doesn't count, and stays.
func TestHearKeeps(t *testing.T) {
	v := of(9, 9, 9, 9)
	for _, from := range []int{record.None, record.Mine, record.Heard} {
		p := record.Port{Up: true, Admin: true, Info: from, Vector: held()}
		hears(t, "bare", p, v, 4, config(), taken(p, v, 4, 21), info.Taken)
		for at := range record.Designated + 1 {
			p := busy(from)
			p.Role, p.State, p.Agreed, p.Plain, p.Edge = at, at%3, at%2 == 0, at%3 == 0, at%4 == 0
			hears(t, "role", p, v, 4, config(), taken(p, v, 4, 21), info.Taken)
		}
	}
	k := config()
	hears(t, "config", busy(record.Heard), v, 4, record.Config{MaxAge: k.MaxAge, Hello: k.Hello}, taken(busy(record.Heard), v, 4, 21), info.Taken)
}

// fades to a port, and is answered whether it is gone.
func fades(t *testing.T, p, want record.Port, gone bool) {
	t.Helper()
	for range 2 {
		if got, is := info.Fade(p); got != want || is != gone {
			t.Errorf("Fade(%+v)\ntells %+v, %v\nwant  %+v, %v", p, got, is, want, gone)
		}
	}
}

// forgot: the port, without what it heard.
func forgot(p record.Port) record.Port {
	p.Info, p.Vector, p.Age, p.Life = record.None, vector.Vector{}, 0, 0
	return p
}

// P16.2: a life that goes on, and one that ends, at 0 and below it.
func TestFade(t *testing.T) {
	for _, life := range []int{2, 3, 30, 1 << 40, math.MaxInt} {
		p := busy(record.Heard)
		p.Life = life
		want := p
		want.Life = life - 1
		fades(t, p, want, false)
	}
	for _, life := range []int{1, 0, -1, -2, -1 << 40, math.MinInt + 1, math.MinInt} {
		p := busy(record.Heard)
		p.Life = life
		fades(t, p, forgot(p), true)
		p.Up, p.Role, p.Age = false, record.Root, -4 // what isn't on is forgotten as well
		fades(t, p, forgot(p), true)
	}
}

// P16.2: other ports stay as they are, whatever their life.
func TestFadeOthers(t *testing.T) {
	for _, from := range []int{record.None, record.Mine, -1, 3, 1<<32 + 2, math.MinInt, math.MaxInt} {
		for _, life := range []int{0, 1, 2, 5, -1, math.MinInt, math.MaxInt} {
			p := busy(from)
			p.Life = life
			fades(t, p, p, false)
		}
	}
	fades(t, record.Port{}, record.Port{}, false)
}

// P16.2: what was heard is kept three times Hello, if nothing is heard since, and as long once more if it is.
func TestFadeCourse(t *testing.T) {
	for hello := 1; hello <= 10; hello++ {
		k := config()
		k.Hello = hello
		p, _ := info.Hear(busy(record.None), held(), 3, k)
		for range 3*hello - 1 {
			gone := false
			if p, gone = info.Fade(p); gone || p.Info != record.Heard || p.Vector != held() || p.Age != 3 {
				t.Fatalf("Hello %d: %+v, %v", hello, p, gone)
			}
		}
		p, what := info.Hear(p, held(), 4, k)
		if what != info.Same {
			t.Fatalf("Hello %d: heard anew: %d", hello, what)
		}
		for range 3*hello - 1 {
			p, _ = info.Fade(p)
		}
		fades(t, p, forgot(p), true)
		fades(t, forgot(p), forgot(p), false)
	}
}

// switches a port, and is answered that.
func switches(t *testing.T, what string, p record.Port, up, admin bool, c record.Config, want record.Port) {
	t.Helper()
	for range 2 {
		if got := info.Switch(p, up, admin, c); got != want {
			t.Errorf("%s: Switch(%+v, %v, %v)\ntells %+v\nwant  %+v", what, p, up, admin, got, want)
		}
	}
}

// P16.3: from each way a port may be switched to each other one, a busy port and a bare one.
func TestSwitch(t *testing.T) {
	flags := []bool{false, true}
	for _, from := range []int{record.None, record.Mine, record.Heard, -1, 9} {
		for n := range 16 {
			wasUp, wasAdmin, up, admin := flags[n&1], flags[n>>1&1], flags[n>>2&1], flags[n>>3]
			p := busy(from)
			p.Up, p.Admin = wasUp, wasAdmin
			want := fresh(up, admin)
			switch {
			case up && admin && wasUp && wasAdmin:
				want = p
			case up && admin:
				want.Plain, want.Wait = true, 15
			}
			switches(t, "busy", p, up, admin, config(), want)
		}
	}
	switches(t, "bare, to on", record.Port{}, true, true, record.Config{}, record.Port{Up: true, Admin: true, Plain: true})
	switches(t, "bare, up alone", record.Port{}, true, false, config(), record.Port{Up: true})
	switches(t, "bare, admin alone", record.Port{}, false, true, config(), record.Port{Admin: true})
	switches(t, "bare, off", record.Port{}, false, false, config(), record.Port{})
	switches(t, "bare, stays on", record.Port{Up: true, Admin: true}, true, true, config(), record.Port{Up: true, Admin: true})
}

// P16.3: a port that is on by that waits c's Delay, whatever that is.
func TestSwitchDelay(t *testing.T) {
	for _, delay := range []int{0, 1, 4, 30, 31, -1, math.MinInt, math.MaxInt} {
		want := fresh(true, true)
		want.Plain, want.Wait = true, delay
		for _, links := range [][2]bool{{false, false}, {false, true}, {true, false}} {
			p := busy(record.Heard)
			p.Up, p.Admin = links[0], links[1]
			switches(t, "on", p, true, true, record.Config{Delay: delay}, want)
		}
		switches(t, "off", busy(record.Heard), false, true, record.Config{Delay: delay}, fresh(false, true))
	}
}

// P16.3: settings stay, each by itself, whatever they are.
func TestSwitchKeepsSettings(t *testing.T) {
	for _, p := range []record.Port{
		{Port: classify.Port{Pvid: 4095}}, {Port: classify.Port{Accept: -3}}, {Port: classify.Port{Filter: true}},
		{Cost: math.MaxUint32}, {Priority: math.MinInt}, {Edge: true},
	} {
		on := p
		on.Up, on.Admin = true, true
		was := on
		was.Plain, was.Wait = true, 15
		switches(t, "on", p, true, true, config(), was)
		down := p
		down.Admin = true
		switches(t, "off", on, false, true, config(), down)
		switches(t, "stays", on, true, true, config(), on)
	}
}

// P16.3: each thing that a port is, but for its settings, is gone when it goes off, and when it comes on; what a fresh one has is another thing.
func TestSwitchForgets(t *testing.T) {
	settings := map[string]bool{"Port": true, "Cost": true, "Priority": true, "Edge": true, "Admin": true, "Up": true}
	full := busy(record.Heard)
	for i := range reflect.TypeOf(full).NumField() {
		name := reflect.TypeOf(full).Field(i).Name
		if settings[name] {
			continue
		}
		on := record.Port{Up: true, Admin: true}
		reflect.ValueOf(&on).Elem().Field(i).Set(reflect.ValueOf(full).Field(i))
		switches(t, name, on, false, true, config(), record.Port{Admin: true})
		switches(t, name, on, true, false, config(), record.Port{Up: true})
		off := on
		off.Up = false
		switches(t, name, off, true, true, config(), record.Port{Up: true, Admin: true, Plain: true, Wait: 15})
		switches(t, name, off, false, true, config(), record.Port{Admin: true})
		switches(t, name, on, true, true, config(), on)
	}
}

// P16.1 to P16.3: a port from the time it is on till it is off.
func TestCourse(t *testing.T) {
	k := record.Config{MaxAge: 6, Hello: 2, Delay: 4}
	p := info.Switch(fresh(false, true), true, true, k)
	steps := []struct {
		v    vector.Vector
		what int
	}{
		{of(9, 9, 9, 9), info.Taken}, {of(9, 9, 9, 9), info.Same}, {of(9, 9, 9, 10), info.Worse}, {of(9, 10, 9, 9), info.Taken},
		{of(9, 9, 9, 10), info.Taken}, {of(12, 9, 9, 9), info.Worse}, {of(12, 9, 9, 10), info.Taken}, {of(9, 9, 9, 9), info.Taken},
	}
	for i, s := range steps {
		what := 0
		if p, what = info.Hear(p, s.v, i%6, k); what != s.what {
			t.Fatalf("step %d: %d, want %d", i, what, s.what)
		}
	}
	want := fresh(true, true)
	want.Plain, want.Wait = true, 4
	if want = taken(want, of(9, 9, 9, 9), 1, 6); p != want {
		t.Fatalf("%+v, want %+v", p, want)
	}
	switches(t, "off", p, true, false, k, fresh(true, false))
}
