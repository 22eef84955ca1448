package bridge_test

import (
	"slices"
	"testing"

	"girder/addr"
	"girder/api"
	"girder/bpdu"
	"girder/bridge"
	"girder/classify"
	"girder/count"
	"girder/egress"
	"girder/fdb"
	"girder/frame"
	"girder/plane"
	"girder/ports"
	"girder/record"
	"girder/static"
	"girder/tree"
	"girder/vlan"
)

// words: a bridge that does what the chapter says, sentence by sentence. It is a state alone, whose tables are laid anew each time.
type words struct {
	s    record.State
	sent []bridge.Sent
}

// seen: what was learnt, to be asked and told; then it is listed again.
func (w *words) seen(do func(f *fdb.Fdb)) {
	f := fdb.New(w.s.Room, w.s.Live)
	for _, e := range w.s.Fdb {
		f.Put(e)
	}
	do(f)
	w.s.Fdb = f.List()
}

// vlans likewise.
func (w *words) vlans(do func(t *vlan.Table) api.Errno) api.Errno {
	t := vlan.New()
	for _, v := range w.s.Vlans {
		t.Set(v)
	}
	err := do(t)
	w.s.Vlans = t.List()
	return err
}

// static entries likewise.
func (w *words) static(do func(t *static.Table) api.Errno) api.Errno {
	t := static.New()
	for _, e := range w.s.Static {
		t.Set(e)
	}
	err := do(t)
	w.s.Static = t.List()
	return err
}

// "What is sent"
func (w *words) sends(s record.State, o tree.Out) {
	w.s = s
	for _, p := range o.Flush {
		w.seen(func(f *fdb.Fdb) { f.Flush(p) })
	}
	for _, told := range o.Told {
		f, _ := bpdu.Wrap(s.ID.MAC(), told.PDU)
		data, _ := frame.Encode(f)
		w.sent = append(w.sent, bridge.Sent{Port: told.Port, Data: data})
		w.s.Counts[count.Told]++
	}
}

// P20.1
func (w *words) tick() {
	w.seen(func(f *fdb.Fdb) { w.s.Counts[count.Aged] += uint32(f.Tick()) })
	w.sends(tree.Tick(w.s))
}

// there: is there such a port?
func (w *words) there(port int) bool {
	return port >= 1 && port <= len(w.s.Ports)
}

// P20.1
func (w *words) switches(port int, up, admin bool) api.Errno {
	if !w.there(port) {
		return api.ErrPort
	}
	w.sends(tree.Switch(w.s, port, up, admin))
	return api.OK
}

// P20.2
func (w *words) frame(port int, data string) api.Errno {
	if !w.there(port) {
		return api.ErrPort
	}
	w.s.Counts[count.Frames]++
	f, err := frame.Decode(data)
	if err != api.OK {
		w.s.Counts[count.Malformed]++
		return err
	}
	if p := w.s.Ports[port-1]; f.Dst == bpdu.Group() && p.Up && p.Admin {
		p, err := bpdu.Open(f)
		if err != api.OK {
			w.s.Counts[count.Spoilt]++
			return err
		}
		w.s.Counts[count.Heard]++
		w.sends(tree.Hear(w.s, port, p))
		return api.OK
	}
	w.pass(port, f)
	return api.OK
}

// P20.2: what isn't to the group.
func (w *words) pass(port int, f frame.Frame) {
	var r plane.Result
	w.vlans(func(v *vlan.Table) api.Errno {
		return w.static(func(t *static.Table) api.Errno {
			w.seen(func(seen *fdb.Fdb) {
				r = plane.Pass(egress.Tables{Vlans: v, Static: t, Fdb: seen}, w.s.Ports, port, f)
			})
			return api.OK
		})
	})
	if r.Why != count.Sent {
		w.s.Counts[r.Why]++
	}
	for _, s := range r.Sent {
		data, _ := frame.Encode(s.Frame)
		w.sent = append(w.sent, bridge.Sent{Port: s.Port, Data: data})
		w.s.Counts[count.Sent]++
	}
	if r.Learnt {
		w.s.Counts[count.Learnt]++
	}
	if r.Evicted {
		w.s.Counts[count.Evicted]++
	}
}

// P20.3
func (w *words) dropVlan(vid uint16) api.Errno {
	err := w.vlans(func(t *vlan.Table) api.Errno { return t.Drop(vid) })
	if err == api.OK {
		w.seen(func(f *fdb.Fdb) { f.Drop(vid) })
	}
	return err
}

// P20.3
func (w *words) setPort(port int, p record.Port) api.Errno {
	if !w.there(port) {
		return api.ErrPort
	}
	if p.Pvid < 1 || p.Pvid > 4094 || p.Accept < 0 || p.Accept > 2 {
		return api.ErrVlan
	}
	if p.Cost < 1 || p.Cost > 200000000 || p.Priority < 0 || p.Priority > 15 {
		return api.ErrRange
	}
	own := w.s.Ports[port-1]
	own.Pvid, own.Accept, own.Filter = p.Pvid, p.Accept, p.Filter
	own.Cost, own.Priority, own.Edge = p.Cost, p.Priority, p.Edge
	w.s.Ports[port-1] = own
	w.sends(tree.Switch(w.s, port, own.Up, own.Admin))
	return api.OK
}

// The events that come to a bridge.
const (
	comes = iota
	ticks
	switches
	setVlan
	dropVlan
	setStatic
	dropStatic
	setPort
	starts
	events
)

// event that comes to a bridge.
type event struct {
	what, port int
	data       string
	up, admin  bool
	vlan       vlan.Vlan
	static     static.Entry
	settings   record.Port
}

// said: the bridge of the words, behind an event.
func (e event) said(s record.State) (record.State, []bridge.Sent, api.Errno) {
	w := &words{s: s.Clone()}
	var err api.Errno
	switch e.what {
	case comes:
		err = w.frame(e.port, e.data)
	case ticks:
		w.tick()
	case switches:
		err = w.switches(e.port, e.up, e.admin)
	case setVlan:
		err = w.vlans(func(t *vlan.Table) api.Errno { return t.Set(e.vlan) })
	case dropVlan:
		err = w.dropVlan(e.vlan.Vid)
	case setStatic:
		err = w.static(func(t *static.Table) api.Errno { return t.Set(e.static) })
	case dropStatic:
		err = w.static(func(t *static.Table) api.Errno { return t.Drop(e.static.Key) })
	case setPort:
		err = w.setPort(e.port, e.settings)
	case starts:
		w.sends(tree.Start(w.s))
	}
	return w.s, w.sent, err
}

// done to a bridge.
func (e event) done(b *bridge.Bridge) ([]bridge.Sent, api.Errno) {
	switch e.what {
	case comes:
		return b.Frame(e.port, e.data)
	case ticks:
		return b.Tick(), api.OK
	case switches:
		return b.Switch(e.port, e.up, e.admin)
	case setVlan:
		return nil, b.SetVlan(e.vlan)
	case dropVlan:
		return nil, b.DropVlan(e.vlan.Vid)
	case setStatic:
		return nil, b.SetStatic(e.static)
	case dropStatic:
		return nil, b.DropStatic(e.static.Key)
	case setPort:
		return b.SetPort(e.port, e.settings)
	}
	return b.Start(), api.OK
}

// draw of numbers that come one behind the other, none by chance.
type draw uint64

// next number below a bound.
func (d *draw) next(bound int) int {
	*d = *d*6364136223846793005 + 1442695040888963407
	return int(uint64(*d>>33) % uint64(bound))
}

// yes, as often as once in so many.
func (d *draw) yes(once int) bool {
	return d.next(once) == 0
}

// address of few, of all kinds.
func (d *draw) address() addr.MAC {
	return addr.FromInt([...]uint64{2, 3, 4, 5, 6, 7, 8, 9, group, 0x0180C2000000, 0x0180C2000003, 0xFFFFFFFFFFFF}[d.next(12)])
}

// settings of a port; once in so many they may not be.
func (d *draw) settings(wrong int) record.Port {
	p := record.Port{Cost: uint32(1 + d.next(3)), Priority: d.next(3), Edge: d.yes(4), Admin: !d.yes(6), Up: !d.yes(8)}
	p.Port = classify.Port{Pvid: uint16(1 + d.next(2)), Accept: max(0, d.next(8)-5), Filter: d.yes(3)}
	if d.yes(wrong) {
		p.Cost *= uint32(d.next(2) * 100000000)
		p.Priority, p.Accept = d.next(20)-2, d.next(5)-1
	}
	return p
}

// vlan of few numbers.
func (d *draw) vlan() vlan.Vlan {
	v := vlan.Vlan{Vid: uint16(d.next(4)), Members: ports.Set(d.next(64))}
	v.Untagged = v.Members & ports.Set(d.next(64))
	if d.yes(10) {
		v.Untagged ^= 1
	}
	return v
}

// state of a bridge that has just booted.
func (d *draw) state() record.State {
	s := record.State{Config: record.Config{ID: addr.ID(4 + d.next(3)), MaxAge: 6 + d.next(3), Hello: 1 + d.next(3), Delay: 1 + d.next(3), Room: 1 + d.next(5), Live: 2 + d.next(9)}}
	for range d.next(6) {
		s.Ports = append(s.Ports, d.settings(1<<30))
	}
	s.Vlans = []vlan.Vlan{{Vid: 1, Members: 0xFFFF, Untagged: ports.Set(d.next(64))}, {Vid: 2, Members: ports.Set(d.next(64))}}
	return s
}

// pdu in bytes, of few vectors, so that many are alike; some are none.
func (d *draw) pdu(l []record.Port) string {
	p := bpdu.PDU{Kind: bpdu.Rapid, Role: uint8(d.next(4)), Topology: d.yes(4), Proposal: d.yes(2), Agreement: d.yes(2), Age: uint16(d.next(7))}
	p.Root, p.Cost, p.Bridge, p.Port = addr.ID(3+d.next(4)), uint32(d.next(3)), addr.ID(3+d.next(5)), uint16(d.next(3))
	if len(l) > 0 && d.yes(3) { // what some port holds
		p = tells(p, l[d.next(len(l))].Vector)
	}
	if d.yes(6) {
		p = bpdu.PDU{Kind: bpdu.Change}
	}
	f, _ := bpdu.Wrap(addr.FromInt(6), p)
	f.Tagged = d.yes(12)
	data, _ := frame.Encode(f)
	return d.turn(data, 8)
}

// turn a byte of some data, or leave some of it, once in so many.
func (d *draw) turn(data string, once int) string {
	if !d.yes(once) {
		return data
	}
	at := d.next(len(data))
	if d.yes(2) {
		return data[:at]
	}
	return data[:at] + string([]byte{data[at] ^ 1<<d.next(8)}) + data[at+1:]
}

// station's frame in bytes.
func (d *draw) station() string {
	f := frame.Frame{Src: d.address(), Dst: d.address(), Type: 0x800, Data: "abcd"[:d.next(5)]}
	if d.yes(3) {
		f.Tagged, f.Pcp, f.Dei, f.Vid = true, uint8(d.next(8)), d.yes(2), uint16(d.next(4))
	}
	data, _ := frame.Encode(f)
	return d.turn(data, 20)
}

// event at a bridge of some ports.
func (d *draw) event(l []record.Port) event {
	e := event{port: 1 + d.next(max(1, len(l))), up: !d.yes(4), admin: !d.yes(6), vlan: d.vlan(), settings: d.settings(3)}
	if d.yes(20) {
		e.port = d.next(20) - 2
	}
	e.static = static.Entry{Key: fdb.Key{Vid: uint16(d.next(3)), Mac: d.address()}, Ports: ports.Set(d.next(64))}
	switch what := d.next(40); {
	case what < 16:
		e.what, e.data = comes, d.station()
	case what < 24:
		e.what, e.data = comes, d.pdu(l)
	case what < 32:
		e.what = ticks
	default:
		e.what = d.next(events)
	}
	if e.what == starts && !d.yes(3) {
		e.what = ticks
	}
	return e
}

// asSaid: an event does what the words say.
func (e event) asSaid(t *testing.T, b *bridge.Bridge) {
	t.Helper()
	was := b.State()
	want, sent, err := e.said(was)
	l, got := e.done(b)
	if is := b.State(); !record.Same(is, want) || !slices.Equal(l, sent) || got != err {
		t.Fatalf("%+v\nof    %+v\ntells %+v\n      %x, %d\nwant  %+v\n      %x, %d", e, was, is, l, got, want, sent, err)
	}
}

// P20.1 to P20.3: bridges do what the chapter's words say, whatever comes one behind the other; each thing that is counted came about.
func TestWords(t *testing.T) {
	var d draw
	var all count.Counts
	for range 400 {
		s := d.state()
		b := bridge.Load(s)
		if !d.yes(10) {
			event{what: starts}.asSaid(t, b)
		}
		for range 100 {
			d.event(s.Ports).asSaid(t, b)
			s = b.State()
		}
		all = all.Plus(s.Counts)
	}
	for what, n := range all {
		if n < 50 {
			t.Errorf("%d was counted %d times", what, n)
		}
	}
}

// P20.1: a bridge that is loaded with another one's state goes on as that one does, also if that happens again and again.
func TestLoadGoesOn(t *testing.T) {
	d := draw(1)
	for range 100 {
		b := bridge.Load(d.state())
		b.Start()
		other := bridge.Load(b.State())
		for range 100 {
			e := d.event(b.State().Ports)
			l, err := e.done(b)
			m, wrong := e.done(other)
			if !slices.Equal(l, m) || err != wrong || !record.Same(b.State(), other.State()) {
				t.Fatalf("%+v tells %x, %d, %+v\nand loaded %x, %d, %+v", e, l, err, b.State(), m, wrong, other.State())
			}
			if d.yes(3) {
				other = bridge.Load(other.State())
			}
		}
	}
}

// two bridges of two ports each, that are joined by two cables: the whole's example.
func TestTwoBridges(t *testing.T) {
	l := []*bridge.Bridge{}
	for _, id := range []addr.ID{2, 1} {
		s := cold(2)
		s.ID = id
		l = append(l, bridge.Load(s))
	}
	type under struct {
		to   int
		sent bridge.Sent
	}
	var way []under
	from := func(i int, sent []bridge.Sent) {
		for _, s := range sent {
			way = append(way, under{1 - i, s})
		}
	}
	for i, b := range l {
		from(i, b.Start())
	}
	for range 30 {
		for most := 0; len(way) > 0; way = way[1:] {
			u := way[0]
			if most++; most > 1000 {
				t.Fatal("the bridges tell one another for ever")
			}
			sent, err := l[u.to].Frame(u.sent.Port, u.sent.Data)
			if err != api.OK {
				t.Fatalf("%+v: %d", u, err)
			}
			from(u.to, sent)
		}
		for i, b := range l {
			from(i, b.Tick())
		}
	}
	first, second := l[0].State(), l[1].State()
	for i, want := range [][2]int{{record.Root, record.Forwarding}, {record.Alternate, record.Discarding}} {
		if p, q := first.Ports[i], second.Ports[i]; p.Role != want[0] || p.State != want[1] || q.Role != record.Designated || q.State != record.Forwarding {
			t.Errorf("port %d: %+v, %+v", i+1, p, q)
		}
	}
	if first.Counts[count.Heard] == 0 || first.Counts[count.Malformed]+first.Counts[count.Spoilt] > 0 {
		t.Errorf("counts %v", first.Counts)
	}
}
