package state_test

import (
	"math"
	"reflect"
	"testing"

	"girder/addr"
	"girder/classify"
	"girder/record"
	"girder/state"
	"girder/vector"
)

// of numbers: a vector.
func of(root addr.ID, cost uint32, bridge addr.ID, port uint16) vector.Vector {
	return vector.Vector{Root: root, Cost: cost, Bridge: bridge, Port: port}
}

// tells: what the ports of these tests are to tell, where nothing else is said.
func tells() vector.Vector {
	return of(10, 20, 30, 40)
}

// config of a bridge whose ports wait 15 ticks.
func config() record.Config {
	return record.Config{ID: 77, MaxAge: 20, Hello: 7, Delay: 15, Room: 64, Live: 300}
}

// busy port: on, with a bridge behind it, and no number of it is zero.
func busy(role, stands int) record.Port {
	return record.Port{
		Port: classify.Port{Pvid: 5, Accept: classify.Untagged, Filter: true},
		Cost: 20000, Priority: 8, Edge: true, Admin: true, Up: true, Agreed: true,
		Role: role, State: stands, Info: record.Heard, Vector: of(1, 2, 3, 4),
		Age: 11, Life: 12, Wait: 13, Change: 14,
	}
}

// telling port: designated, and tells what it is to tell already.
func telling(stands int) record.Port {
	p := busy(record.Designated, stands)
	p.Info, p.Vector = record.Mine, tells()
	return p
}

// mine: the port, that tells anew.
func mine(p record.Port) record.Port {
	p.Info, p.Vector, p.Age, p.Life, p.Agreed = record.Mine, tells(), 0, 0, false
	return p
}

// stands: the port with a state, for so many ticks.
func stands(p record.Port, in, wait int) record.Port {
	p.State, p.Wait = in, wait
	return p
}

// edged: the port, at the edge.
func edged(p record.Port) record.Port {
	p.Edge, p.Plain = true, true
	return p
}

// assumes a role, and is answered that.
func assumes(t *testing.T, what string, p record.Port, role int, c record.Config, want record.Port, anew, open bool) {
	t.Helper()
	want.Role = role
	for range 2 {
		if got, tell, opens := state.Assume(p, role, tells(), c); got != want || tell != anew || opens != open {
			t.Errorf("%s: Assume(%+v, %d)\ntells %+v, %v, %v\nwant  %+v, %v, %v", what, p, role, got, tell, opens, want, anew, open)
		}
	}
}

// roles that a port may have had, and others.
func roles() []int {
	return []int{record.Disabled, record.Alternate, record.Backup, record.Root, record.Designated, -1, 5, 1<<32 + 4, math.MinInt, math.MaxInt}
}

// states that a port may have had, and others.
func states() []int {
	return []int{record.Discarding, record.Learning, record.Forwarding, -1, 3, 1<<32 + 2, math.MinInt, math.MaxInt}
}

// waits of any length.
func waits() []int {
	return []int{0, 1, 2, 3, 30, -1, -7, 1 << 40, -1 << 40, math.MinInt, math.MinInt + 1, math.MaxInt}
}

// P17.1: at the edge is what is set so and is plain, whatever else it is.
func TestEdge(t *testing.T) {
	for _, role := range roles() {
		for n := range 64 {
			p := busy(role, n%3)
			p.Edge, p.Plain, p.Up = n&1 > 0, n&2 > 0, n&4 > 0
			p.Admin, p.Agreed, p.Filter = n&8 > 0, n&16 > 0, n&32 > 0
			if got := state.Edge(p); got != (p.Edge && p.Plain) {
				t.Errorf("Edge(%+v) = %v", p, got)
			}
		}
	}
	if state.Edge(record.Port{}) || !state.Edge(record.Port{Edge: true, Plain: true}) {
		t.Error("Edge of bare ports")
	}
}

// P17.1: disabled, or a role that is none: nothing else is otherwise.
func TestAssumeDisabled(t *testing.T) {
	for _, role := range []int{record.Disabled, -1, 5, 1<<32 + 4, 1<<32 + 3, math.MinInt, math.MaxInt} {
		for _, was := range roles() {
			for _, in := range states() {
				p := busy(was, in)
				assumes(t, "disabled", p, role, config(), p, false, false)
				assumes(t, "disabled, at the edge", edged(p), role, config(), edged(p), false, false)
			}
		}
	}
}

// P17.1: alternate and backup ones discard, also those that were that already.
func TestAssumeAlternate(t *testing.T) {
	for _, role := range []int{record.Alternate, record.Backup} {
		for _, was := range roles() {
			for _, in := range states() {
				p := busy(was, in)
				want := stands(p, record.Discarding, 0)
				want.Agreed = false
				assumes(t, "alternate", p, role, config(), want, false, false)
				assumes(t, "alternate, at the edge", edged(p), role, config(), edged(want), false, false)
				p.Agreed, p.Info, p.Vector = false, record.Mine, tells()
				want.Info, want.Vector = record.Mine, tells()
				assumes(t, "alternate, its own vector", p, role, config(), want, false, false)
			}
		}
	}
}

// P17.1: one that gets the root port forwards at once; it opens just where it didn't forward.
func TestAssumeRoot(t *testing.T) {
	for _, was := range roles() {
		for _, in := range states() {
			p := busy(was, in)
			want := stands(p, record.Forwarding, 0)
			want.Agreed = false
			if was == record.Root {
				assumes(t, "root already", p, record.Root, config(), p, false, false)
				assumes(t, "root already, at the edge", edged(p), record.Root, config(), edged(p), false, false)
				continue
			}
			assumes(t, "root", p, record.Root, config(), want, false, in != record.Forwarding)
			assumes(t, "root, at the edge", edged(p), record.Root, config(), edged(want), false, in != record.Forwarding)
		}
	}
}

// P17.1: one that gets designated tells, discards, and waits c's Delay, whatever it was.
func TestAssumeDesignated(t *testing.T) {
	for _, was := range roles() {
		if was == record.Designated {
			continue
		}
		for _, in := range states() {
			for _, delay := range []int{15, 1, 30, 0, -1, math.MinInt, math.MaxInt} {
				c := config()
				c.Delay = delay
				p := busy(was, in)
				assumes(t, "designated", p, record.Designated, c, stands(mine(p), record.Discarding, delay), true, false)
				open := in != record.Forwarding
				assumes(t, "designated, at the edge", edged(p), record.Designated, c, stands(mine(edged(p)), record.Forwarding, 0), true, open)
				p = telling(in) // its own vector already: its role is another one all the same
				p.Role = was
				assumes(t, "designated, its own vector", p, record.Designated, c, stands(mine(p), record.Discarding, delay), true, false)
			}
		}
	}
}

// P17.1: a port is at the edge where both flags are set.
func TestAssumeDesignatedByFlags(t *testing.T) {
	for n := range 4 {
		p := busy(record.Disabled, record.Discarding)
		p.Edge, p.Plain = n&1 > 0, n&2 > 0
		want := stands(mine(p), record.Discarding, 15)
		if n == 3 {
			want = stands(mine(p), record.Forwarding, 0)
		}
		assumes(t, "designated", p, record.Designated, config(), want, true, n == 3)
	}
}

// P17.1: one that is designated already, and tells that already, stays as it is.
func TestAssumeDesignatedAlready(t *testing.T) {
	for _, in := range states() {
		for _, agreed := range []bool{false, true} {
			for _, wait := range waits() {
				p := telling(in)
				p.Agreed, p.Wait = agreed, wait
				assumes(t, "already", p, record.Designated, config(), p, false, false)
				assumes(t, "already, at the edge", edged(p), record.Designated, config(), stands(edged(p), record.Forwarding, 0), false, in != record.Forwarding)
			}
		}
	}
}

// P17.1: one that is designated already tells anew, where its Info isn't Mine, or its vector is another one by any field; it stays in its state, and waits as it waited.
func TestAssumeDesignatedAnew(t *testing.T) {
	for _, in := range states() {
		for _, from := range []int{record.None, record.Heard, -1, 3, 1<<32 + 1, math.MinInt, math.MaxInt} {
			p := telling(in)
			p.Info = from
			assumes(t, "its vector isn't its own", p, record.Designated, config(), mine(p), true, false)
			assumes(t, "likewise, at the edge", edged(p), record.Designated, config(), stands(mine(edged(p)), record.Forwarding, 0), true, in != record.Forwarding)
		}
		for _, v := range []vector.Vector{
			of(11, 20, 30, 40), of(10, 21, 30, 40), of(10, 20, 31, 40), of(10, 20, 30, 41), {},
			of(9, 20, 30, 40), of(10, 19, 30, 40), of(10, 20, 29, 40), of(10, 20, 30, 39), of(10|1<<63, 20, 30, 40),
		} {
			p := telling(in)
			p.Vector = v
			assumes(t, "another vector", p, record.Designated, config(), mine(p), true, false)
			p.Age, p.Life, p.Agreed = 0, 0, false
			assumes(t, "another vector, not agreed", p, record.Designated, config(), mine(p), true, false)
			assumes(t, "likewise, at the edge", edged(p), record.Designated, config(), stands(mine(edged(p)), record.Forwarding, 0), true, in != record.Forwarding)
		}
	}
}

// P17.1: what is told is that which it is to tell, whatever that is.
func TestAssumeTells(t *testing.T) {
	for _, v := range []vector.Vector{{}, of(math.MaxUint64, math.MaxUint32, math.MaxUint64, math.MaxUint16), of(1, 0, 0, 0)} {
		p, anew, _ := state.Assume(busy(record.Root, record.Forwarding), record.Designated, v, config())
		if p.Vector != v || !anew {
			t.Errorf("%+v tells %+v, %v", v, p, anew)
		}
		if q, anew, _ := state.Assume(p, record.Designated, v, config()); q != p || anew {
			t.Errorf("%+v again tells %+v, %v", v, q, anew)
		}
		for _, role := range []int{record.Disabled, record.Alternate, record.Backup, record.Root} {
			if q, _, _ := state.Assume(busy(record.Learning, 0), role, v, config()); q.Vector != of(1, 2, 3, 4) {
				t.Errorf("role %d: the vector is %+v", role, q.Vector)
			}
		}
	}
}

// steps its clock, and is answered that.
func steps(t *testing.T, what string, p record.Port, c record.Config, want record.Port, open bool) {
	t.Helper()
	for range 2 {
		if got, opens := state.Step(p, c); got != want || opens != open {
			t.Errorf("%s: Step(%+v)\ntells %+v, %v\nwant  %+v, %v", what, p, got, opens, want, open)
		}
	}
}

// P17.2: one that waits longer waits on; one whose wait is over goes on, also where it was over already.
func TestStep(t *testing.T) {
	for _, wait := range waits() {
		for _, delay := range []int{15, 1, 0, -1, math.MinInt, math.MaxInt} {
			c := config()
			c.Delay = delay
			for _, in := range []int{record.Discarding, record.Learning} {
				p := stands(telling(in), in, wait)
				switch {
				case wait > 1:
					steps(t, "waits on", p, c, stands(p, in, wait-1), false)
					steps(t, "waits on, at the edge", edged(p), c, stands(edged(p), in, wait-1), false)
				case in == record.Discarding:
					steps(t, "learns", p, c, stands(p, record.Learning, delay), false)
				default:
					steps(t, "forwards", p, c, stands(p, record.Forwarding, 0), true)
				}
			}
		}
	}
}

// P17.2: forwarding ones, and those of other roles stay as they are, whatever their wait.
func TestStepOthers(t *testing.T) {
	for _, wait := range waits() {
		p := stands(telling(0), record.Forwarding, wait)
		steps(t, "forwarding", p, config(), p, false)
		for _, role := range roles() {
			if role == record.Designated {
				continue
			}
			for _, in := range states() {
				p := stands(busy(role, 0), in, wait)
				steps(t, "another role", p, config(), p, false)
			}
		}
	}
	steps(t, "bare", record.Port{}, config(), record.Port{}, false)
}

// P17.2: a state that is none has a wait, but nothing comes behind it.
func TestStepWrongState(t *testing.T) {
	for _, in := range []int{-1, 3, 1 << 32, 1<<32 + 1, math.MinInt, math.MaxInt} {
		for _, wait := range []int{0, 1, 2, 30, -1, -7, math.MaxInt} {
			p := stands(telling(0), in, wait)
			steps(t, "no state", p, config(), stands(p, in, wait-1), false)
		}
		p := stands(telling(0), in, math.MinInt)
		if got, open := state.Step(p, config()); open || got.State != in {
			t.Errorf("Step(%+v) tells %+v, %v", p, got, open)
		}
	}
}

// P17.1, P17.2, the example: a port that gets designated forwards behind two Delays.
func TestStepCourse(t *testing.T) {
	for delay := 1; delay <= 30; delay++ {
		c := config()
		c.Delay = delay
		p, _, _ := state.Assume(busy(record.Alternate, record.Discarding), record.Designated, tells(), c)
		for n := 1; n <= 3*delay; n++ {
			in, open := record.Discarding, false
			if n >= delay {
				in = record.Learning
			}
			if n >= 2*delay {
				in = record.Forwarding
			}
			if p, open = state.Step(p, c); p.State != in || open != (n == 2*delay) {
				t.Fatalf("Delay %d, tick %d: %+v, %v", delay, n, p, open)
			}
			if in != record.Forwarding && p.Wait != delay-n%delay || in == record.Forwarding && p.Wait != 0 {
				t.Fatalf("Delay %d, tick %d waits %d", delay, n, p.Wait)
			}
		}
	}
}

// P17.3: a designated one that is agreed with forwards at once; others stay as they are.
func TestAgree(t *testing.T) {
	for _, role := range roles() {
		for _, in := range states() {
			for _, wait := range waits() {
				for n := range 4 {
					p := stands(busy(role, 0), in, wait)
					p.Agreed, p.Plain = n&1 > 0, n&2 > 0
					want, open := p, false
					if role == record.Designated {
						want.Agreed, want.State, want.Wait = true, record.Forwarding, 0
						open = in != record.Forwarding
					}
					if got, opens := state.Agree(p); got != want || opens != open {
						t.Errorf("Agree(%+v)\ntells %+v, %v\nwant  %+v, %v", p, got, opens, want, open)
					}
				}
			}
		}
	}
}

// P17.3: a designated one with a bridge behind it, that nobody agreed with, discards and waits anew; all others stay as they are.
func TestBlock(t *testing.T) {
	for _, role := range roles() {
		for _, in := range states() {
			for _, delay := range []int{15, 1, 0, -1, math.MinInt, math.MaxInt} {
				for n := range 8 {
					c := config()
					c.Delay = delay
					p := busy(role, in)
					p.Agreed, p.Plain, p.Edge = n&1 > 0, n&2 > 0, n&4 > 0
					want := p
					if role == record.Designated && n&1 == 0 && n < 6 && in != record.Discarding {
						want.State, want.Wait = record.Discarding, delay
					}
					for range 2 {
						if got := state.Block(p, c); got != want {
							t.Errorf("Block(%+v)\ntells %+v\nwant  %+v", p, got, want)
						}
					}
				}
			}
		}
	}
}

// P17.3: what is blocked waits two Delays, or till somebody agrees; then it isn't blocked any more, till it tells anew.
func TestBlockCourse(t *testing.T) {
	p := telling(record.Forwarding)
	p.Agreed = false
	p = state.Block(p, config())
	if p.State != record.Discarding || p.Wait != 15 {
		t.Fatalf("blocked: %+v", p)
	}
	p, open := state.Agree(p)
	if !open || state.Block(p, config()) != p {
		t.Fatalf("agreed: %+v, %v", p, open)
	}
	q, anew, open := state.Assume(p, record.Designated, of(9, 20, 30, 40), config())
	if !anew || open || q.State != record.Forwarding || q.Agreed {
		t.Fatalf("anew: %+v, %v, %v", q, anew, open)
	}
	if q = state.Block(q, config()); q.State != record.Discarding {
		t.Fatalf("blocked anew: %+v", q)
	}
}

// P17.1 to P17.3: settings, and what no promise names, stay as they are, each by itself.
func TestKeeps(t *testing.T) {
	kept := []string{"Port", "Cost", "Priority", "Edge", "Admin", "Up", "Plain", "Change"}
	for _, name := range kept {
		p := record.Port{Role: record.Designated, State: record.Learning, Wait: 1}
		from := edged(busy(0, 0))
		reflect.ValueOf(&p).Elem().FieldByName(name).Set(reflect.ValueOf(from).FieldByName(name))
		var l []record.Port
		for _, role := range roles() {
			q, _, _ := state.Assume(p, role, tells(), config())
			l = append(l, q)
		}
		stepped, _ := state.Step(p, config())
		agreed, _ := state.Agree(p)
		for _, q := range append(l, stepped, agreed, state.Block(p, config())) {
			for _, same := range kept {
				a, b := reflect.ValueOf(p).FieldByName(same), reflect.ValueOf(q).FieldByName(same)
				if !a.Equal(b) {
					t.Errorf("%s: %s was %+v and is %+v", name, same, a, b)
				}
			}
		}
	}
}
