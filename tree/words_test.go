package tree_test

import (
	"testing"

	"girder/addr"
	"girder/bpdu"
	"girder/info"
	"girder/record"
	"girder/role"
	"girder/state"
	"girder/tree"
	"girder/vector"
)

// words: a bridge that does what the chapter says, sentence by sentence; ports by their numbers.
type words struct {
	s     record.State
	told  []tree.Told
	flush []int
}

// port of a number.
func (w *words) port(n int) *record.Port {
	return &w.s.Ports[n-1]
}

// numbers of all ports.
func (w *words) numbers() []int {
	var l []int
	for i := range w.s.Ports {
		l = append(l, i+1)
	}
	return l
}

// vectorOf what a PDU tells.
func vectorOf(p bpdu.PDU) vector.Vector {
	return of(p.Root, p.Cost, p.Bridge, p.Port)
}

// "To tell"
func (w *words) tell(n int) {
	p := w.port(n)
	pdu := bpdu.PDU{Kind: bpdu.Rapid, Role: bpdu.Designated}
	pdu.Topology = p.Change > 0
	pdu.Proposal = p.State != record.Forwarding
	pdu.Forwarding = p.State == record.Forwarding
	pdu.Learning = p.State == record.Learning || pdu.Forwarding
	pdu.Root, pdu.Cost, pdu.Bridge, pdu.Port = p.Vector.Root, p.Vector.Cost, p.Vector.Bridge, p.Vector.Port
	for i := len(w.s.Ports); i > 0; i-- {
		if w.port(i).Role == record.Root {
			pdu.Age = uint16(w.port(i).Age + 1)
		}
	}
	pdu.MaxAge, pdu.Hello, pdu.Delay = uint16(w.s.MaxAge), uint16(w.s.Hello), uint16(w.s.Delay)
	w.told = append(w.told, tree.Told{Port: n, PDU: pdu})
}

// "The topology changed at a port"
func (w *words) changed(n int) {
	if state.Edge(*w.port(n)) {
		return
	}
	twice := w.s.Hello + w.s.Hello
	w.port(n).Change = twice
	for _, o := range w.numbers() {
		q := w.port(o)
		if o == n || !q.Up || !q.Admin || state.Edge(*q) {
			continue
		}
		if q.Role == record.Root {
			q.Change = twice
		}
		if q.Role == record.Designated {
			q.Change = twice
		}
		w.flush = append(w.flush, o)
	}
}

// "To choose"
func (w *words) choose() {
	var l []role.Port
	for _, n := range w.numbers() {
		p := w.port(n)
		l = append(l, role.Port{On: p.Up && p.Admin, Heard: p.Info == record.Heard, Vector: p.Vector, Cost: p.Cost, ID: uint16(p.Priority*4096 + n)})
	}
	choice := role.Choose(w.s.ID, l)
	anew, opened := map[int]bool{}, map[int]bool{}
	for _, n := range w.numbers() {
		*w.port(n), anew[n], opened[n] = state.Assume(*w.port(n), choice.Roles[n-1], choice.Tells[n-1], w.s.Config)
	}
	for _, n := range w.numbers() {
		if opened[n] {
			w.changed(n)
		}
	}
	for _, n := range w.numbers() {
		if anew[n] {
			w.tell(n)
		}
	}
}

// P18.1
func (w *words) start() {
	w.s.Beat = 0
	for _, n := range w.numbers() {
		p := *w.port(n)
		q := info.Switch(p, false, p.Admin, w.s.Config)
		if p.Up {
			q = info.Switch(q, true, p.Admin, w.s.Config)
		}
		*w.port(n) = q
	}
	w.choose()
}

// P18.1
func (w *words) switches(n int, up, admin bool) {
	if n < 1 || n > len(w.s.Ports) {
		return
	}
	was := w.port(n).On()
	*w.port(n) = info.Switch(*w.port(n), up, admin, w.s.Config)
	if was && !w.port(n).On() {
		w.flush = []int{n}
	}
	w.choose()
}

// P18.2
func (w *words) hear(n int, p bpdu.PDU) {
	if n < 1 || n > len(w.s.Ports) || !w.port(n).On() {
		return
	}
	w.port(n).Plain = false
	if p.Kind == bpdu.Change || p.Topology {
		for _, o := range w.numbers() {
			q := w.port(o)
			if o != n && q.On() && (q.Role == record.Root || q.Role == record.Designated) && !state.Edge(*q) {
				q.Change = w.s.Hello + w.s.Hello
				w.flush = append(w.flush, o)
			}
		}
	}
	if p.Kind == bpdu.Change {
		return
	}
	if p.Kind == bpdu.Rapid && (p.Role == bpdu.Root || p.Role == bpdu.Other) {
		if p.Agreement && w.port(n).Role == record.Designated && vectorOf(p) == w.port(n).Vector {
			opened := false
			*w.port(n), opened = state.Agree(*w.port(n))
			if opened {
				w.changed(n)
			}
		}
		return
	}
	what := 0
	*w.port(n), what = info.Hear(*w.port(n), vectorOf(p), int(p.Age), w.s.Config)
	if what == info.Worse && w.port(n).Role == record.Designated {
		w.tell(n)
	}
	if what == info.Same || what == info.Taken {
		w.choose()
		w.proposed(n, p)
	}
}

// P18.2: what comes behind the choice.
func (w *words) proposed(n int, p bpdu.PDU) {
	tells := map[int]uint8{record.Root: bpdu.Root, record.Alternate: bpdu.Other, record.Backup: bpdu.Other}
	r, ok := tells[w.port(n).Role]
	if !p.Proposal || !ok {
		return
	}
	for _, o := range w.numbers() {
		if o != n {
			*w.port(o) = state.Block(*w.port(o), w.s.Config)
		}
	}
	v := w.port(n).Vector
	w.told = append(w.told, tree.Told{Port: n, PDU: bpdu.PDU{Kind: bpdu.Rapid, Role: r, Agreement: true, Root: v.Root, Cost: v.Cost, Bridge: v.Bridge, Port: v.Port}})
}

// P18.3
func (w *words) tick() {
	for _, n := range w.numbers() {
		*w.port(n), _ = info.Fade(*w.port(n))
		if w.port(n).Change > 0 {
			w.port(n).Change--
		}
	}
	w.choose()
	opened := map[int]bool{}
	for _, n := range w.numbers() {
		*w.port(n), opened[n] = state.Step(*w.port(n), w.s.Config)
	}
	for _, n := range w.numbers() {
		if opened[n] {
			w.changed(n)
		}
	}
	w.s.Beat--
	if w.s.Beat > 0 {
		return
	}
	w.s.Beat = w.s.Hello
	for _, n := range w.numbers() {
		p := w.port(n)
		if !p.On() {
			continue
		}
		if p.Role == record.Designated {
			w.tell(n)
		}
		if p.Role == record.Root && p.Change > 0 {
			v := p.Vector
			w.told = append(w.told, tree.Told{Port: n, PDU: bpdu.PDU{Kind: bpdu.Rapid, Role: bpdu.Root, Topology: true, Root: v.Root, Cost: v.Cost, Bridge: v.Bridge, Port: v.Port}})
		}
	}
}

// event that comes to a bridge.
type event struct {
	what      string
	port      int
	up, admin bool
	pdu       bpdu.PDU
}

// said: the bridge of the words, behind an event.
func (e event) said(s record.State) (record.State, tree.Out) {
	w := &words{s: s.Clone()}
	switch e.what {
	case "start":
		w.start()
	case "hear":
		w.hear(e.port, e.pdu)
	case "tick":
		w.tick()
	case "switch":
		w.switches(e.port, e.up, e.admin)
	}
	return w.s, tree.Out{Told: w.told, Flush: w.flush}
}

// done: the bridge behind an event.
func (e event) done(s record.State) (record.State, tree.Out) {
	switch e.what {
	case "start":
		return tree.Start(s)
	case "hear":
		return tree.Hear(s, e.port, e.pdu)
	case "tick":
		return tree.Tick(s)
	}
	return tree.Switch(s, e.port, e.up, e.admin)
}

// draw of numbers that come one behind the other, none by chance.
type draw uint64

// next number below a bound.
func (d *draw) next(bound int) int {
	*d = *d*6364136223846793005 + 1442695040888963407
	return int(uint64(*d>>33) % uint64(bound))
}

// yes, as often as once in so many.
func (d *draw) yes(once int) bool {
	return d.next(once) == 0
}

// vector of few numbers, so that many are alike.
func (d *draw) vector() vector.Vector {
	return of(addr.ID(d.next(4)), uint32(d.next(4)), addr.ID(d.next(5)), uint16(d.next(4)))
}

// some of a few numbers of ticks.
func (d *draw) ticks() int {
	return [...]int{0, 1, 2, 3, 4, 7, 65535, 65536, 1 << 40, -1, -2, -1 << 40}[d.next(12)]
}

// port in any way.
func (d *draw) port() record.Port {
	return record.Port{
		Cost: uint32(d.next(3)), Priority: d.next(3), Edge: d.yes(2), Admin: !d.yes(5), Up: !d.yes(5), Plain: d.yes(2), Agreed: d.yes(2),
		Role: d.next(5), State: d.next(3), Info: d.next(3), Vector: d.vector(),
		Age: d.ticks(), Life: d.ticks(), Wait: d.ticks(), Change: d.ticks(),
	}
}

// state in any way.
func (d *draw) state() record.State {
	s := record.State{Config: record.Config{ID: addr.ID(d.next(5)), MaxAge: d.ticks(), Hello: d.ticks(), Delay: d.ticks()}, Beat: d.ticks()}
	for range d.next(6) {
		s.Ports = append(s.Ports, d.port())
	}
	return s
}

// pdu that comes to a bridge of some ports.
func (d *draw) pdu(l []record.Port) bpdu.PDU {
	p := bpdu.PDU{
		Kind: []uint8{bpdu.Rapid, bpdu.Rapid, bpdu.Rapid, bpdu.Config, bpdu.Change, 7}[d.next(6)], Role: uint8(d.next(5)),
		Topology: d.yes(3), Proposal: d.yes(2), Learning: d.yes(2), Forwarding: d.yes(2), Agreement: d.yes(2), Ack: d.yes(2), Age: uint16(d.next(5)),
	}
	v := d.vector()
	if len(l) > 0 && d.yes(2) { // what some port holds
		v = l[d.next(len(l))].Vector
	}
	p.Root, p.Cost, p.Bridge, p.Port = v.Root, v.Cost, v.Bridge, v.Port
	return p
}

// event at a bridge of some ports.
func (d *draw) event(l []record.Port) event {
	e := event{port: d.next(len(l)+2) - d.next(2), up: !d.yes(4), admin: !d.yes(6), pdu: d.pdu(l)}
	e.what = []string{"hear", "hear", "hear", "tick", "tick", "switch"}[d.next(6)]
	if d.yes(40) {
		e.what = "start"
	}
	return e
}

// as said: an event does what the words say, and leaves what it was handed as it was.
func (e event) asSaid(t *testing.T, s record.State) (record.State, tree.Out) {
	t.Helper()
	was := s.Clone()
	ws, wo := e.said(s)
	gs, o := e.done(s)
	if !record.Same(gs, ws) || !sameOut(o, wo) {
		t.Fatalf("%+v\nof    %+v\ntells %+v\n      %+v\nwant  %+v\n      %+v", e, was, gs, o, ws, wo)
	}
	if !record.Same(s, was) {
		t.Fatalf("%+v changed\n%+v to\n%+v", e, was, s)
	}
	return gs, o
}

// P18.1 to P18.3: bridges in any state do what the chapter's words say, whatever comes.
func TestWordsOfAnyState(t *testing.T) {
	var d draw
	for range 60000 {
		s := d.state()
		d.event(s.Ports).asSaid(t, s)
	}
}

// P18.1 to P18.4: bridges do so from their start on, each with roles as they are chosen.
func TestWordsOfCourses(t *testing.T) {
	d := draw(1)
	told, flushed := 0, 0
	for range 400 {
		s := d.state()
		s.MaxAge, s.Hello, s.Delay = 2+d.next(5), 1+d.next(3), 1+d.next(4)
		s, _ = event{what: "start"}.asSaid(t, s)
		for range 60 {
			var o tree.Out
			s, o = d.event(s.Ports).asSaid(t, s)
			told, flushed = told+len(o.Told), flushed+len(o.Flush)
			chosen(t, s)
		}
	}
	if told < 10000 || flushed < 3000 {
		t.Errorf("%d were told, %d flushed", told, flushed)
	}
}

// chosen: P18.4 holds of a bridge.
func chosen(t *testing.T, s record.State) {
	t.Helper()
	var l []role.Port
	for i, p := range s.Ports {
		l = append(l, role.Port{On: p.On(), Heard: p.Info == record.Heard, Vector: p.Vector, Cost: p.Cost, ID: p.ID(i + 1)})
	}
	for i, want := range role.Choose(s.ID, l).Roles {
		p := s.Ports[i]
		if p.Role != want {
			t.Fatalf("port %d has the role %d, and %d is chosen: %+v", i+1, p.Role, want, s)
		}
		if p.State != record.Discarding && p.Role != record.Root && p.Role != record.Designated {
			t.Fatalf("port %d has the role %d, and the state %d: %+v", i+1, p.Role, p.State, s)
		}
	}
}
