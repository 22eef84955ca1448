package valid_test

import (
	"math"
	"slices"
	"testing"

	"girder/addr"
	"girder/api"
	"girder/fdb"
	"girder/record"
	"girder/role"
	"girder/static"
	"girder/valid"
	"girder/vector"
	"girder/vlan"
)

// wrong: is one of these not so?
func wrong(so ...bool) bool {
	return slices.Contains(so, false)
}

// portWords: what the chapter says of a port by itself, sentence by sentence.
func portWords(p record.Port, c record.Config) api.Errno {
	disabled, designated, isRoot := p.Role == 0, p.Role == 4, p.Role == 3
	discarding, forwarding := p.State == 0, p.State == 2
	none, mine, isHeard := p.Info == 0, p.Info == 1, p.Info == 2
	isOn := p.Up && p.Admin
	switch {
	case p.Pvid == 0 || p.Pvid > 4094 || p.Accept < 0 || p.Accept > 2:
		return api.ErrVlan
	case p.Cost == 0 || p.Cost > 200000000 || p.Priority < 0 || p.Priority > 15:
		return api.ErrRange
	case p.Role < 0 || p.Role > 4 || p.State < 0 || p.State > 2 || p.Info < 0 || p.Info > 2:
		return api.ErrKind
	case wrong(
		isOn || disabled,
		!disabled || !p.Plain && !p.Agreed,
		!disabled || discarding,
		!disabled || none,
		!disabled || p.Change == 0,
		!none || disabled,
		mine == designated,
		isRoot || designated || discarding,
		!isRoot || forwarding,
		designated || !p.Agreed,
		forwarding || !p.Agreed,
	):
		return api.ErrMode
	}
	waits := designated && !forwarding
	if wrong(
		!none || p.Vector == vector.Vector{},
		!none || p.Age == 0 && p.Life == 0,
		!mine || p.Age == 0 && p.Life == 0,
		!isHeard || p.Age >= 0 && p.Age <= c.MaxAge-1,
		!isHeard || p.Life >= 1 && p.Life <= 3*c.Hello,
		!waits || p.Wait >= 1 && p.Wait <= c.Delay,
		waits || p.Wait == 0,
		p.Change >= 0 && p.Change <= 2*c.Hello,
	) {
		return api.ErrNum
	}
	return api.OK
}

// chosenWords: where it is begun, the roles, and what is told.
func chosenWords(s record.State) api.Errno {
	var l []role.Port
	isBegun := false
	for i, p := range s.Ports {
		isBegun = isBegun || p.Role != 0
		l = append(l, role.Port{On: p.Up && p.Admin, Heard: p.Info == 2, Vector: p.Vector, Cost: p.Cost, ID: uint16(p.Priority<<12 + i + 1)})
	}
	c := role.Choose(s.ID, l)
	for i, p := range s.Ports {
		if isBegun && (p.Role != c.Roles[i] || p.Role == 4 && p.Vector != c.Tells[i]) {
			return api.ErrWord
		}
	}
	return api.OK
}

// words of the chapter, sentence by sentence, of states whose lists are as they should be.
func words(s record.State) api.Errno {
	if wrong(s.MaxAge >= 6, s.MaxAge <= 40, s.Hello >= 1, s.Hello <= 10, s.Delay >= 1, s.Delay <= 30,
		s.Room >= 1, s.Room <= 64, s.Live >= 1, s.Live <= 1000, s.Beat >= 0, s.Beat <= s.Hello) {
		return api.ErrRange
	}
	if len(s.Ports) > 16 {
		return api.ErrPort
	}
	for _, p := range s.Ports {
		if err := portWords(p, s.Config); err != api.OK {
			return err
		}
	}
	return chosenWords(s)
}

// turns: what is done to a port, one by one: each field of it gets one of a few numbers.
func turns() []func(p *record.Port) {
	var l []func(p *record.Port)
	for _, is := range []bool{false, true} {
		l = append(l,
			func(p *record.Port) { p.Up = is },
			func(p *record.Port) { p.Admin = is },
			func(p *record.Port) { p.Plain = is },
			func(p *record.Port) { p.Agreed = is },
			func(p *record.Port) { p.Edge = is })
	}
	for n := -1; n < 6; n++ {
		l = append(l,
			func(p *record.Port) { p.Role = n },
			func(p *record.Port) { p.State = n },
			func(p *record.Port) { p.Info = n })
	}
	for _, n := range []int{-1, 0, 1, 4, 5, 6, 7, 15, 16, 19, 20} {
		l = append(l,
			func(p *record.Port) { p.Age = n },
			func(p *record.Port) { p.Life = n },
			func(p *record.Port) { p.Wait = n },
			func(p *record.Port) { p.Change = n })
	}
	for _, v := range []vector.Vector{{}, tells(0), tells(1), tells(4), {Root: 1, Cost: 10, Bridge: 2}, {Root: 5, Bridge: 5, Port: 0x8001}} {
		l = append(l, func(p *record.Port) { p.Vector = v })
	}
	return append(l,
		func(p *record.Port) { p.Pvid = 0 },
		func(p *record.Port) { p.Cost = 0 },
		func(p *record.Port) { p.Cost = 1 },
		func(p *record.Port) { p.Priority = 16 },
		func(p *record.Port) { p.Priority = 7 })
}

// asSaid: Check tells what the words say.
func asSaid(t *testing.T, s record.State) api.Errno {
	t.Helper()
	got, want := valid.Check(s), words(s)
	if got != want {
		t.Fatalf("Check of %+v: %d, want %d", s, got, want)
	}
	return got
}

// P22.1: one, two or three fields of each port turned in any way, in the begun state and in a cold one.
func TestWords(t *testing.T) {
	l := turns()
	met := map[api.Errno]int{}
	for _, s := range []record.State{begun(), begun().Cold()} {
		for at := range s.Ports {
			was := s.Ports[at]
			for i, first := range l {
				first(&s.Ports[at])
				met[asSaid(t, s)]++
				one := s.Ports[at]
				for j, second := range l[:i] {
					second(&s.Ports[at])
					met[asSaid(t, s)]++
					two := s.Ports[at]
					for _, third := range l[:j] {
						third(&s.Ports[at])
						met[asSaid(t, s)]++
						s.Ports[at] = two
					}
					s.Ports[at] = one
				}
				s.Ports[at] = was
			}
		}
	}
	for _, err := range []api.Errno{api.OK, api.ErrVlan, api.ErrRange, api.ErrKind, api.ErrMode, api.ErrNum, api.ErrWord} {
		if met[err] < 100 {
			t.Errorf("the error %d was met %d times", err, met[err])
		}
	}
}

// drawn port of a bridge whose ID is 4: it would be a good one by itself, but that its role is drawn.
func (d *draw) drawn(at int, c record.Config) record.Port {
	p := record.Port{Cost: uint32(1 + d.next(2)), Priority: d.next(2), Admin: !d.yes(12), Up: !d.yes(12), Edge: d.yes(3)}
	p.Pvid, p.Role = 1, d.next(5)
	switch p.Role {
	case record.Designated:
		p.Info, p.State, p.Plain = record.Mine, d.next(3), d.yes(2)
		p.Vector = vector.Vector{Root: addr.ID(3 + d.next(2)), Cost: uint32(d.next(4)), Bridge: c.ID, Port: p.ID(at + 1)}
		if p.State < record.Forwarding {
			p.Wait = 1 + d.next(c.Delay)
		}
	case record.Disabled:
		p.Up = p.Up && d.yes(6)
	default:
		p.Info, p.Life, p.Age = record.Heard, 1+d.next(3*c.Hello), d.next(c.MaxAge)
		p.Vector = vector.Vector{Root: addr.ID(3 + d.next(2)), Cost: uint32(d.next(4)), Bridge: addr.ID(3 + d.next(3)), Port: uint16(d.next(4))}
	}
	if p.Role == record.Root {
		p.State = record.Forwarding
	}
	return p
}

// P22.1: states of few ports of any kinds: many are good by themselves, and wrong together.
func TestWordsOfDrawn(t *testing.T) {
	d := draw(7)
	met := map[api.Errno]int{}
	for range 300000 {
		s := record.State{Config: record.Config{ID: 4, MaxAge: 6 + d.next(3), Hello: 1 + d.next(2), Delay: 1 + d.next(3), Room: 1, Live: 1}, Beat: d.next(2)}
		for at := range d.next(5) {
			s.Ports = append(s.Ports, d.drawn(at, s.Config))
		}
		met[asSaid(t, s)]++
	}
	for _, err := range []api.Errno{api.OK, api.ErrMode, api.ErrWord} {
		if met[err] < 1000 {
			t.Errorf("the error %d was met %d times", err, met[err])
		}
	}
}

// flaw of a state, and what Check tells of it.
type flaw struct {
	err  api.Errno
	make func(s *record.State)
}

// portFlaws of the port at a place, in the order in which they are named.
func portFlaws(at int) []flaw {
	return []flaw{
		{api.ErrVlan, func(s *record.State) { s.Ports[at].Accept = 3 }},
		{api.ErrRange, func(s *record.State) { s.Ports[at].Priority = -1 }},
		{api.ErrKind, func(s *record.State) { s.Ports[at].State = 3 }},
		{api.ErrMode, func(s *record.State) { s.Ports[at].Admin = false }},
		{api.ErrNum, func(s *record.State) { s.Ports[at].Age = -1 }},
	}
}

// flaws in the order in which they are named; any two of them may be made at once, whichever first.
func flaws() []flaw {
	l := []flaw{
		{api.ErrRange, func(s *record.State) { s.Beat = 3 }},
		{api.ErrPort, func(s *record.State) {
			for len(s.Ports) < 17 {
				s.Ports = append(s.Ports, s.Ports[down])
			}
		}},
	}
	for _, at := range []int{root, agreed, learning, waiting, alternate, backup} {
		l = append(l, portFlaws(at)...)
	}
	return append(l,
		flaw{api.ErrWord, func(s *record.State) { s.Ports[down].Up, s.Ports[down].Admin = true, true }},
		flaw{api.ErrFull, func(s *record.State) { s.Vlans = append(s.Vlans, make([]vlan.Vlan, 16)...) }},
		flaw{api.ErrOrder, func(s *record.State) { s.Vlans[0].Vid = 2 }},
		flaw{api.ErrPort, func(s *record.State) { s.Vlans[1].Members = 1 << 20 }},
		flaw{api.ErrVlan, func(s *record.State) { s.Vlans[2].Vid = 4095 }},
		flaw{api.ErrFull, func(s *record.State) { s.Static = append(s.Static, make([]static.Entry, 16)...) }},
		flaw{api.ErrOrder, func(s *record.State) { s.Static[0].Vid = 4 }},
		flaw{api.ErrPort, func(s *record.State) { s.Static[1].Ports = 1 << 20 }},
		flaw{api.ErrVlan, func(s *record.State) { s.Static[2].Vid = 4095 }},
		flaw{api.ErrFull, func(s *record.State) { s.Fdb = append(s.Fdb, make([]fdb.Entry, 16)...) }},
		flaw{api.ErrOrder, func(s *record.State) { s.Fdb[0].Vid = 7 }},
		flaw{api.ErrPort, func(s *record.State) { s.Fdb[0].Port = 0 }},
		flaw{api.ErrRange, func(s *record.State) { s.Fdb[1].Age = 300 }},
		flaw{api.ErrNone, func(s *record.State) { s.Fdb[2].Vid = 9 }},
	)
}

// P22.1: of two flaws that which is named first, port by port, and of one port all.
func TestOrder(t *testing.T) {
	l := flaws()
	for i, first := range l {
		s := begun()
		first.make(&s)
		if got := valid.Check(s); got != first.err {
			t.Errorf("the flaw %d: Check tells %d, want %d", i, got, first.err)
		}
		for j, second := range l[i+1:] {
			for _, two := range [][2]flaw{{first, second}, {second, first}} {
				s := begun()
				two[0].make(&s)
				two[1].make(&s)
				if got := valid.Check(s); got != first.err {
					t.Errorf("the flaws %d and %d: Check tells %d, want %d", i, i+1+j, got, first.err)
				}
			}
		}
		s = begun()
		for _, f := range l[i:] {
			f.make(&s)
		}
		if got := valid.Check(s); got != first.err {
			t.Errorf("the flaws from %d on: Check tells %d, want %d", i, got, first.err)
		}
	}
}

// any int at the ends of what it may be, or small.
func (d *draw) any() int {
	return [...]int{math.MinInt, math.MinInt + 1, -1, 0, 1, 2, 3, 4, 6, 15, 16, math.MaxInt32, math.MaxInt - 1, math.MaxInt}[d.next(14)]
}

// P1, P22.1, P22.2: Check and Begun end, whatever they are handed.
func TestAnything(t *testing.T) {
	d := draw(3)
	for range 20000 {
		s := begun()
		s.MaxAge, s.Hello, s.Delay, s.Room, s.Live, s.Beat = d.any(), d.any(), d.any(), d.any(), d.any(), d.any()
		if d.yes(2) {
			s.Config, s.Beat = config(), 0
		}
		for i := range s.Ports {
			p := &s.Ports[i]
			p.Priority, p.Role, p.State, p.Info, p.Age, p.Life, p.Wait, p.Change, p.Accept = d.any(), d.any(), d.any(), d.any(), d.any(), d.any(), d.any(), d.any(), d.any()
		}
		s.Fdb[0].Port, s.Fdb[1].Age = d.any(), d.any()
		asSaid(t, s)
		valid.Begun(s)
	}
}
