package valid_test

import (
	"math"
	"reflect"
	"testing"

	"girder/addr"
	"girder/api"
	"girder/classify"
	"girder/count"
	"girder/fdb"
	"girder/ports"
	"girder/record"
	"girder/static"
	"girder/valid"
	"girder/vector"
	"girder/vlan"
)

const self = addr.ID(5)

// The ports of the begun state, by their places: one of each role, and a Designated one of each State.
const (
	root = iota
	agreed
	learning
	waiting
	alternate
	backup
	down
	places
)

// config of the states that are looked at.
func config() record.Config {
	return record.Config{ID: self, MaxAge: 20, Hello: 2, Delay: 15, Room: 4, Live: 300}
}

// settings of a port.
func settings() record.Port {
	return record.Port{Port: classify.Port{Pvid: 1}, Cost: 4, Priority: 8, Admin: true, Up: true}
}

// tells: what the port at a place of the begun state tells.
func tells(at int) vector.Vector {
	return vector.Vector{Root: 1, Cost: 14, Bridge: self, Port: 0x8001 + uint16(at)}
}

// heard port: it has a vector of some life.
func heard(role, state int, v vector.Vector) record.Port {
	p := settings()
	p.Role, p.State, p.Info, p.Vector, p.Age, p.Life, p.Change = role, state, record.Heard, v, 3, 5, 1
	return p
}

// mine: a port that is Designated, at a place.
func mine(at, state, wait int) record.Port {
	p := settings()
	p.Role, p.State, p.Info, p.Vector, p.Wait, p.Plain = record.Designated, state, record.Mine, tells(at), wait, true
	return p
}

// begun state in which nothing is wrong; each call makes a new one.
func begun() record.State {
	s := record.State{Config: config(), Ports: make([]record.Port, places), Counts: count.Counts{3, 0, math.MaxUint32}, Beat: 1}
	s.Ports[root] = heard(record.Root, record.Forwarding, vector.Vector{Root: 1, Cost: 10, Bridge: 2, Port: 0x8001})
	s.Ports[agreed] = mine(agreed, record.Forwarding, 0)
	s.Ports[agreed].Agreed = true
	s.Ports[learning] = mine(learning, record.Learning, 7)
	s.Ports[waiting] = mine(waiting, record.Discarding, 15)
	s.Ports[alternate] = heard(record.Alternate, record.Discarding, vector.Vector{Root: 1, Cost: 11, Bridge: 3, Port: 0x8002})
	s.Ports[backup] = heard(record.Backup, record.Discarding, tells(waiting))
	s.Ports[down] = settings()
	s.Ports[down].Up = false
	s.Vlans = []vlan.Vlan{{Vid: 1, Members: 0x7F, Untagged: 0x7F}, {Vid: 2, Members: ports.Of(1, 16)}, {Vid: 4094}}
	s.Static = []static.Entry{{Key: key(1, 9), Ports: ports.Of(1)}, {Key: key(3, 1)}, {Key: key(3, 2), Ports: 0xFFFF}}
	s.Fdb = []fdb.Entry{{Key: key(1, 2), Port: 1, Age: 299}, {Key: key(1, 3), Port: 7}, {Key: key(2, 2), Port: 3, Age: 5}}
	return s
}

// key of a VLAN and an address' number.
func key(vid uint16, n uint64) fdb.Key {
	return fdb.Key{Vid: vid, Mac: addr.FromInt(n)}
}

// checks: Check of a state tells an error.
func checks(t *testing.T, what string, s record.State, want api.Errno) {
	t.Helper()
	if got := valid.Check(s); got != want {
		t.Errorf("%s: Check tells %d, want %d", what, got, want)
	}
}

// changed: Check of the begun state, and of a cold one, behind a change of it.
func changed(t *testing.T, what string, want api.Errno, change func(s *record.State)) {
	t.Helper()
	s := begun()
	change(&s)
	checks(t, what, s, want)
	s = begun()
	s.Fdb, s.Ports = nil, s.Cold().Ports
	change(&s)
	checks(t, what+", cold", s, want)
}

// P22.1, the example: cold states, the begun one, and one of which there is as little as can be.
func TestGood(t *testing.T) {
	checks(t, "begun", begun(), api.OK)
	checks(t, "cold", begun().Cold(), api.OK)
	checks(t, "bare", record.State{Config: config()}, api.OK)
	checks(t, "least", record.State{Config: record.Config{MaxAge: 6, Hello: 1, Delay: 1, Room: 1, Live: 1}}, api.OK)
	checks(t, "most", record.State{Config: record.Config{ID: math.MaxUint64, MaxAge: 40, Hello: 10, Delay: 30, Room: 64, Live: 1000}, Beat: 10}, api.OK)
	checks(t, "zero", record.State{}, api.ErrRange)
}

// P22.1: each number of the Config, and Beat, at its bounds and far beyond.
func TestConfig(t *testing.T) {
	for what, c := range map[string]struct {
		of          func(s *record.State) *int
		least, most int
	}{
		"MaxAge": {func(s *record.State) *int { return &s.MaxAge }, 6, 40},
		"Hello":  {func(s *record.State) *int { return &s.Hello }, 1, 10},
		"Delay":  {func(s *record.State) *int { return &s.Delay }, 1, 30},
		"Room":   {func(s *record.State) *int { return &s.Room }, 1, 64},
		"Live":   {func(s *record.State) *int { return &s.Live }, 1, 1000},
		"Beat":   {func(s *record.State) *int { return &s.Beat }, 0, 2},
	} {
		for n := -5; n <= 1100; n++ {
			s := record.State{Config: config()}
			*c.of(&s) = n
			want := api.OK
			if n < c.least || n > c.most {
				want = api.ErrRange
			}
			checks(t, what, s, want)
		}
		for _, n := range []int{math.MinInt, math.MaxInt, math.MinInt32, 1 << 32, 1<<32 + 6, 1<<16 + 6, 1030} {
			changed(t, what, api.ErrRange, func(s *record.State) { *c.of(s) = n })
		}
	}
}

// P22.1: Beat may be up to Hello, whatever that is.
func TestBeat(t *testing.T) {
	for hello := 1; hello <= 10; hello++ {
		for beat := -1; beat <= 12; beat++ {
			s := record.State{Config: config(), Beat: beat}
			s.Hello = hello
			want := api.ErrRange
			if beat >= 0 && beat <= hello {
				want = api.OK
			}
			checks(t, "Beat", s, want)
		}
	}
}

// P22.1: how many ports there may be.
func TestPorts(t *testing.T) {
	for n := range 40 {
		s := record.State{Config: config()}
		for range n {
			s.Ports = append(s.Ports, settings())
		}
		want := api.OK
		if n > 16 {
			want = api.ErrPort
		}
		checks(t, "ports", s, want)
	}
}

// P22.1: settings of each port, at their bounds and beyond; cost and priority may be such that the roles stay as they were.
func TestSettings(t *testing.T) {
	for at := range places {
		for pvid, want := range map[uint16]api.Errno{0: api.ErrVlan, 1: api.OK, 2: api.OK, 4094: api.OK, 4095: api.ErrVlan, 4096: api.ErrVlan, math.MaxUint16: api.ErrVlan} {
			changed(t, "Pvid", want, func(s *record.State) { s.Ports[at].Pvid = pvid })
		}
		for accept, want := range map[int]api.Errno{-1: api.ErrVlan, 0: api.OK, 1: api.OK, 2: api.OK, 3: api.ErrVlan, math.MinInt: api.ErrVlan, math.MaxInt: api.ErrVlan, 256: api.ErrVlan} {
			changed(t, "Accept", want, func(s *record.State) { s.Ports[at].Accept = accept })
		}
		for _, cost := range []uint32{0, 200000001, 1 << 31, 1<<31 + 1, math.MaxUint32} {
			changed(t, "Cost", api.ErrRange, func(s *record.State) { s.Ports[at].Cost = cost })
		}
		for _, priority := range []int{-1, 16, 17, 256, 1 << 32, math.MinInt, math.MaxInt} {
			changed(t, "Priority", api.ErrRange, func(s *record.State) { s.Ports[at].Priority = priority })
		}
		for _, flip := range []func(p *record.Port){func(p *record.Port) { p.Filter = true }, func(p *record.Port) { p.Edge = true }} {
			changed(t, "flags of any kind", api.OK, func(s *record.State) { flip(&s.Ports[at]) })
		}
		for _, cost := range []uint32{1, 2, 200000000} {
			for priority := range 16 {
				s := begun().Cold()
				s.Ports[at].Cost, s.Ports[at].Priority = cost, priority
				checks(t, "cost and priority", s, api.OK)
			}
		}
	}
}

// P22.1: kinds at each place, at their bounds and beyond.
func TestKinds(t *testing.T) {
	for at := range places {
		for what, c := range map[string]struct {
			of   func(p *record.Port) *int
			most int
		}{
			"Role":  {func(p *record.Port) *int { return &p.Role }, 4},
			"State": {func(p *record.Port) *int { return &p.State }, 2},
			"Info":  {func(p *record.Port) *int { return &p.Info }, 2},
		} {
			for _, n := range []int{-1, c.most + 1, c.most + 2, 256, 1 << 32, math.MinInt, math.MaxInt} {
				changed(t, what, api.ErrKind, func(s *record.State) { *c.of(&s.Ports[at]) = n })
			}
			for n := range c.most + 1 {
				s := begun()
				*c.of(&s.Ports[at]) = n
				if valid.Check(s) == api.ErrKind {
					t.Errorf("%s %d at %d is told to be none", what, n, at)
				}
			}
		}
	}
}

// P22.1: what doesn't go with a port's role.
func TestMode(t *testing.T) {
	for _, c := range []struct {
		what   string
		at     []int
		change func(p *record.Port)
	}{
		{"not up", []int{root, agreed, learning, waiting, alternate, backup}, func(p *record.Port) { p.Up = false }},
		{"not admitted", []int{root, agreed, learning, waiting, alternate, backup}, func(p *record.Port) { p.Admin = false }},
		{"neither", []int{root, agreed, learning, waiting, alternate, backup}, func(p *record.Port) { p.Up, p.Admin = false, false }},
		{"Disabled, and all else as it was", []int{root, agreed, learning, waiting, alternate, backup}, func(p *record.Port) { p.Role = record.Disabled }},
		{"Plain", []int{down}, func(p *record.Port) { p.Plain = true }},
		{"Agreed", []int{root, learning, waiting, alternate, backup, down}, func(p *record.Port) { p.Agreed = true }},
		{"Discarding", []int{root, agreed}, func(p *record.Port) { p.State = record.Discarding }},
		{"Learning", []int{root, agreed, alternate, backup, down}, func(p *record.Port) { p.State = record.Learning }},
		{"Forwarding", []int{alternate, backup, down}, func(p *record.Port) { p.State = record.Forwarding }},
		{"None", []int{root, agreed, learning, waiting, alternate, backup}, func(p *record.Port) { p.Info = record.None }},
		{"None, and a zero vector", []int{root, agreed, learning, waiting, alternate, backup}, func(p *record.Port) {
			p.Info, p.Vector, p.Age, p.Life = record.None, vector.Vector{}, 0, 0
		}},
		{"Mine", []int{root, alternate, backup, down}, func(p *record.Port) { p.Info = record.Mine }},
		{"Mine, of no age", []int{root, alternate, backup, down}, func(p *record.Port) { p.Info, p.Age, p.Life = record.Mine, 0, 0 }},
		{"Heard", []int{agreed, learning, waiting, down}, func(p *record.Port) { p.Info = record.Heard }},
		{"Heard, for a time", []int{agreed, learning, waiting, down}, func(p *record.Port) { p.Info, p.Life = record.Heard, 1 }},
		{"Change", []int{down}, func(p *record.Port) { p.Change = 1 }},
		{"Change below 0", []int{down}, func(p *record.Port) { p.Change = -1 }},
		{"Root", []int{alternate, backup, agreed, learning, waiting, down}, func(p *record.Port) { p.Role = record.Root }},
		{"Alternate", []int{root, agreed, learning, waiting, down}, func(p *record.Port) { p.Role = record.Alternate }},
		{"Backup", []int{root, agreed, learning, waiting, down}, func(p *record.Port) { p.Role = record.Backup }},
		{"Designated", []int{root, alternate, backup, down}, func(p *record.Port) { p.Role = record.Designated }},
	} {
		for _, at := range c.at {
			s := begun()
			c.change(&s.Ports[at])
			checks(t, c.what, s, api.ErrMode)
		}
	}
	for at := range places {
		changed(t, "whatever how it is, where it isn't on", api.ErrMode, func(s *record.State) {
			s.Ports[at] = mine(at, record.Forwarding, 0)
			s.Ports[at].Up = false
		})
	}
}

// P22.1: numbers that don't go with a port's kinds, at their bounds and beyond.
func TestNums(t *testing.T) {
	far := []int{math.MinInt, math.MinInt32, -1, 1000, 1 << 32, 1<<32 + 1, math.MaxInt}
	for what, c := range map[string]struct {
		of          func(p *record.Port) *int
		least, most [places]int // root, agreed, learning, waiting, alternate, backup, down
	}{
		"Age":    {func(p *record.Port) *int { return &p.Age }, [places]int{}, [places]int{19, 0, 0, 0, 19, 19, 0}},
		"Life":   {func(p *record.Port) *int { return &p.Life }, [places]int{1, 0, 0, 0, 1, 1, 0}, [places]int{6, 0, 0, 0, 6, 6, 0}},
		"Wait":   {func(p *record.Port) *int { return &p.Wait }, [places]int{0, 0, 1, 1, 0, 0, 0}, [places]int{0, 0, 15, 15, 0, 0, 0}},
		"Change": {func(p *record.Port) *int { return &p.Change }, [places]int{}, [places]int{4, 4, 4, 4, 4, 4, 0}},
	} {
		for at := range places {
			wrong := api.ErrNum
			if what == "Change" && at == down {
				wrong = api.ErrMode
			}
			for n := -3; n <= 50; n++ {
				s := begun()
				*c.of(&s.Ports[at]) = n
				want := api.OK
				if n < c.least[at] || n > c.most[at] {
					want = wrong
				}
				checks(t, what, s, want)
			}
			for _, n := range far {
				s := begun()
				*c.of(&s.Ports[at]) = n
				checks(t, what, s, wrong)
			}
		}
	}
}

// P22.1: the bounds of a port's numbers hang on the Config.
func TestNumsOfConfig(t *testing.T) {
	for n := 6; n <= 40; n++ {
		for off, want := range []api.Errno{api.OK, api.ErrNum} {
			changed(t, "MaxAge", want, func(s *record.State) {
				s.MaxAge, s.Ports = n, begun().Ports
				s.Ports[root].Age = n - 1 + off
			})
		}
	}
	for n := 1; n <= 10; n++ {
		for off, want := range []api.Errno{api.OK, api.ErrNum} {
			changed(t, "Hello", want, func(s *record.State) {
				s.Hello, s.Ports = n, begun().Ports
				s.Ports[root].Life, s.Ports[alternate].Life, s.Ports[backup].Life = 1, 3*n+off, 1
			})
			changed(t, "twice Hello", want, func(s *record.State) {
				s.Hello, s.Ports = n, begun().Ports
				s.Ports[root].Life, s.Ports[alternate].Life, s.Ports[backup].Life = 1, 1, 1
				s.Ports[alternate].Change = 2*n + off
			})
		}
	}
	for n := 1; n <= 30; n++ {
		for off, want := range []api.Errno{api.OK, api.ErrNum} {
			changed(t, "Delay", want, func(s *record.State) {
				s.Delay, s.Ports = n, begun().Ports
				s.Ports[learning].Wait, s.Ports[waiting].Wait = 1, n+off
			})
		}
	}
}

// P22.1: a vector of a port that has none, by each of its fields.
func TestVectorOfNone(t *testing.T) {
	for _, v := range []vector.Vector{{Root: 1}, {Cost: 1}, {Bridge: 1}, {Port: 1}, tells(down)} {
		changed(t, "vector", api.ErrNum, func(s *record.State) { s.Ports[down].Vector = v })
	}
	s := begun().Cold()
	s.Ports[root].Vector.Port = 1
	checks(t, "vector of a port that is on, and cold", s, api.ErrNum)
}

// P22.1: begun ports whose roles or vectors aren't those that are chosen.
func TestWord(t *testing.T) {
	for what, change := range map[string]func(s *record.State){
		"a port that is on, and cold":         func(s *record.State) { s.Ports[waiting] = settings() },
		"a link that is up, and nothing done": func(s *record.State) { s.Ports[down].Up = true },
		"an Alternate one that is a Backup":   func(s *record.State) { s.Ports[alternate].Role = record.Backup },
		"a Backup that is Alternate":          func(s *record.State) { s.Ports[backup].Role = record.Alternate },
		"an Alternate one that hears nothing better": func(s *record.State) {
			s.Ports[alternate].Vector = vector.Vector{Root: 1, Cost: 14, Bridge: 6}
		},
		"an Alternate one that tells what is heard": func(s *record.State) { s.Ports[alternate].Vector = tells(alternate) },
		"a Backup that hears nothing better":        func(s *record.State) { s.Ports[backup].Vector = tells(down) },
		"a root port, and another one is better":    func(s *record.State) { s.Ports[alternate].Vector.Cost = 9 },
		"a root port, and another way is the same, but by its port": func(s *record.State) {
			s.Ports[alternate].Vector = s.Ports[root].Vector
			s.Ports[alternate].Priority = 7
		},
		"a root port, and another way costs less": func(s *record.State) { s.Ports[alternate].Cost = 2 },
		"two root ports": func(s *record.State) { s.Ports[alternate] = s.Ports[root] },
		"no root port":   func(s *record.State) { s.Ports[root] = mine(root, record.Forwarding, 0) },
		"a root that is no better": func(s *record.State) {
			for i := range s.Ports {
				s.Ports[i].Vector.Root = 6
			}
			s.Ports[down].Vector = vector.Vector{}
		},
		"another ID":       func(s *record.State) { s.ID = 6 },
		"an ID of a root":  func(s *record.State) { s.ID = 1 },
		"another Priority": func(s *record.State) { s.Ports[agreed].Priority = 9 },
		"another cost of the root port": func(s *record.State) {
			s.Ports[root].Cost = 3
		},
		"a vector's root":   func(s *record.State) { s.Ports[waiting].Vector.Root = 2 },
		"a vector's cost":   func(s *record.State) { s.Ports[learning].Vector.Cost = 13 },
		"a vector's bridge": func(s *record.State) { s.Ports[agreed].Vector.Bridge = 2 },
		"a vector's port":   func(s *record.State) { s.Ports[agreed].Vector.Port = 0x8003 },
		"a zero vector":     func(s *record.State) { s.Ports[agreed].Vector = vector.Vector{} },
	} {
		s := begun()
		change(&s)
		checks(t, what, s, api.ErrWord)
	}
}

// P22.1: nothing is chosen as long as nothing is begun; then costs of other ports and ways may be any.
func TestNoWord(t *testing.T) {
	s := begun().Cold()
	s.ID = 0
	checks(t, "cold, of the least ID", s, api.OK)
	for what, change := range map[string]func(s *record.State){
		"cost of one that isn't the root port": func(s *record.State) { s.Ports[agreed].Cost, s.Ports[alternate].Cost = 1, 200000000 },
		"priority of one that is Alternate":    func(s *record.State) { s.Ports[alternate].Priority = 15 },
		"a better vector from the same root port": func(s *record.State) {
			s.Ports[root].Vector.Bridge, s.Ports[root].Vector.Port = 1, 0
		},
		"the same way, and a greater ID": func(s *record.State) { s.Ports[alternate].Vector = s.Ports[root].Vector },
	} {
		s := begun()
		change(&s)
		checks(t, what, s, api.OK)
	}
}

// P22.1: VLANs.
func TestVlans(t *testing.T) {
	for n := range 40 {
		changed(t, "VLANs", map[bool]api.Errno{true: api.OK, false: api.ErrFull}[n <= 16], func(s *record.State) {
			s.Vlans, s.Fdb = nil, nil
			for i := range n {
				s.Vlans = append(s.Vlans, vlan.Vlan{Vid: uint16(1 + i)})
			}
		})
	}
	v := func(vids ...uint16) (l []vlan.Vlan) {
		for _, vid := range vids {
			l = append(l, vlan.Vlan{Vid: vid, Members: 3, Untagged: 1})
		}
		return l
	}
	for _, c := range []struct {
		what string
		l    []vlan.Vlan
		want api.Errno
	}{
		{"two of one number", v(1, 1), api.ErrOrder},
		{"two of one number at the end", v(1, 2, 3, 3), api.ErrOrder},
		{"falling", v(2, 1), api.ErrOrder},
		{"falling at the end", v(1, 2, 9, 8), api.ErrOrder},
		{"rising", v(1, 256, 257, 4094), api.OK},
		{"0", v(0), api.ErrVlan},
		{"0 and more", v(0, 1), api.ErrVlan},
		{"4095", v(1, 4095), api.ErrVlan},
		{"the greatest", v(65535), api.ErrVlan},
		{"a member that is no port", []vlan.Vlan{{Vid: 1, Members: 1 << 16}}, api.ErrPort},
		{"the last member that is no port", []vlan.Vlan{{Vid: 1, Members: 1 << 31}}, api.ErrPort},
		{"a member that is a port of other bridges", []vlan.Vlan{{Vid: 1, Members: 1 << 15}}, api.OK},
		{"no member, and without a tag", []vlan.Vlan{{Vid: 1, Members: 1, Untagged: 3}}, api.ErrPort},
		{"no port, and without a tag", []vlan.Vlan{{Vid: 1, Members: 1, Untagged: 1 << 16}}, api.ErrPort},
		{"number ahead of members", []vlan.Vlan{{Vid: 4095, Members: 1 << 16}}, api.ErrVlan},
		{"members of the first, number of the second", []vlan.Vlan{{Vid: 1, Members: 1 << 16}, {Vid: 4095}}, api.ErrPort},
		{"order ahead of number", v(0, 0), api.ErrOrder},
		{"order ahead of members", []vlan.Vlan{{Vid: 1, Members: 1 << 16}, {Vid: 1}}, api.ErrOrder},
	} {
		changed(t, c.what, c.want, func(s *record.State) { s.Vlans, s.Fdb = c.l, nil })
	}
	changed(t, "too many that don't rise", api.ErrFull, func(s *record.State) { s.Vlans = make([]vlan.Vlan, 17) })
	changed(t, "as many that don't rise", api.ErrOrder, func(s *record.State) { s.Vlans = make([]vlan.Vlan, 16) })
}

// P22.1: static entries.
func TestStatic(t *testing.T) {
	for n := range 40 {
		changed(t, "entries", map[bool]api.Errno{true: api.OK, false: api.ErrFull}[n <= 16], func(s *record.State) {
			s.Static = nil
			for i := range n {
				s.Static = append(s.Static, static.Entry{Key: key(1, uint64(i))})
			}
		})
	}
	e := func(keys ...fdb.Key) (l []static.Entry) {
		for _, k := range keys {
			l = append(l, static.Entry{Key: k, Ports: 3})
		}
		return l
	}
	for _, c := range []struct {
		what string
		l    []static.Entry
		want api.Errno
	}{
		{"two of one key", e(key(1, 1), key(1, 1)), api.ErrOrder},
		{"two of one key at the end", e(key(1, 1), key(1, 2), key(2, 3), key(2, 3)), api.ErrOrder},
		{"falling VLANs", e(key(2, 1), key(1, 2)), api.ErrOrder},
		{"falling addresses", e(key(1, 2), key(1, 1)), api.ErrOrder},
		{"falling at the end", e(key(1, 1), key(1, 2), key(2, 3), key(2, 2)), api.ErrOrder},
		{"the last byte counts least", e(key(1, 0x0100), key(1, 0x00FF)), api.ErrOrder},
		{"rising", e(key(1, 1<<47), key(2, 0), key(2, 0xFF), key(2, 0x0100), key(256, 0), key(4094, 1<<48-1)), api.OK},
		{"a VLAN that isn't there", e(key(77, 1)), api.OK},
		{"VLAN 0", e(key(0, 1)), api.ErrVlan},
		{"VLAN 4095", e(key(1, 1), key(4095, 1)), api.ErrVlan},
		{"a Reserved address", e(key(1, 0x0180C2000000)), api.ErrRange},
		{"the last Reserved address", e(key(1, 0x0180C200000F)), api.ErrRange},
		{"one behind it", e(key(1, 0x0180C2000010)), api.OK},
		{"a Group address", e(key(1, 1<<40)), api.OK},
		{"no port", []static.Entry{{Key: key(1, 1), Ports: 1 << 16}}, api.ErrPort},
		{"the last that is no port", []static.Entry{{Key: key(1, 1), Ports: 1 << 31}}, api.ErrPort},
		{"a port of other bridges", []static.Entry{{Key: key(1, 1), Ports: 1 << 15}}, api.OK},
		{"VLAN ahead of address", e(key(0, 0x0180C2000000)), api.ErrVlan},
		{"address ahead of ports", []static.Entry{{Key: key(1, 0x0180C2000000), Ports: 1 << 16}}, api.ErrRange},
		{"ports of the first, VLAN of the second", []static.Entry{{Key: key(1, 1), Ports: 1 << 16}, {Key: key(4095, 1)}}, api.ErrPort},
		{"order ahead of VLAN", e(key(0, 1), key(0, 1)), api.ErrOrder},
	} {
		changed(t, c.what, c.want, func(s *record.State) { s.Static = c.l })
	}
	changed(t, "too many that don't rise", api.ErrFull, func(s *record.State) { s.Static = make([]static.Entry, 17) })
	changed(t, "as many that don't rise", api.ErrOrder, func(s *record.State) { s.Static = make([]static.Entry, 16) })
}

// P22.1: as many learnt entries as there is room for, whatever that is.
func TestRoom(t *testing.T) {
	for room := 1; room <= 64; room++ {
		for n := max(0, room-2); n < room+3; n++ {
			changed(t, "learnt", map[bool]api.Errno{true: api.OK, false: api.ErrFull}[n <= room], func(s *record.State) {
				s.Room, s.Fdb = room, nil
				for i := range n {
					s.Fdb = append(s.Fdb, fdb.Entry{Key: key(1, uint64(i)), Port: 1})
				}
			})
		}
	}
}

// P22.1: learnt entries. Of the VLANs 1, 2 and 4094, seven ports, and Live 300.
func TestLearnt(t *testing.T) {
	e := func(keys ...fdb.Key) (l []fdb.Entry) {
		for _, k := range keys {
			l = append(l, fdb.Entry{Key: k, Port: 1})
		}
		return l
	}
	one := func(vid uint16, n uint64, port, age int) []fdb.Entry {
		return []fdb.Entry{{Key: key(vid, n), Port: port, Age: age}}
	}
	for _, c := range []struct {
		what string
		l    []fdb.Entry
		want api.Errno
	}{
		{"two of one key", e(key(1, 1), key(1, 1)), api.ErrOrder},
		{"two of one key, else unlike", []fdb.Entry{{Key: key(1, 1), Port: 1}, {Key: key(1, 1), Port: 2, Age: 2}}, api.ErrOrder},
		{"two of one key at the end", e(key(1, 1), key(1, 2), key(2, 3), key(2, 3)), api.ErrOrder},
		{"falling VLANs", e(key(2, 1), key(1, 2)), api.ErrOrder},
		{"falling addresses", e(key(1, 2), key(1, 1)), api.ErrOrder},
		{"the last byte counts least", e(key(1, 0x0100), key(1, 0x00FF)), api.ErrOrder},
		{"rising", e(key(1, 1), key(2, 0), key(2, 0x0100), key(4094, 1<<40-1)), api.OK},
		{"VLAN 0", e(key(0, 1)), api.ErrNone},
		{"a VLAN that isn't there", e(key(1, 1), key(3, 1)), api.ErrNone},
		{"a VLAN that can't be there", e(key(4095, 1)), api.ErrNone},
		{"port 0", one(1, 1, 0, 0), api.ErrPort},
		{"a port below 0", one(1, 1, -1, 0), api.ErrPort},
		{"the least port", one(1, 1, math.MinInt, 0), api.ErrPort},
		{"the last port", one(1, 1, 7, 0), api.OK},
		{"a port behind the last one", one(1, 1, 8, 0), api.ErrPort},
		{"the greatest port", one(1, 1, math.MaxInt, 0), api.ErrPort},
		{"a Group address", one(1, 1<<40, 1, 0), api.ErrPort},
		{"the address of all", one(1, 1<<48-1, 1, 0), api.ErrPort},
		{"a Reserved address", one(1, 0x0180C2000000, 1, 0), api.ErrPort},
		{"an address that is local", one(1, 1<<41, 1, 0), api.OK},
		{"an age below 0", one(1, 1, 1, -1), api.ErrRange},
		{"the least age", one(1, 1, 1, math.MinInt), api.ErrRange},
		{"the last age", one(1, 1, 1, 299), api.OK},
		{"too old", one(1, 1, 1, 300), api.ErrRange},
		{"the greatest age", one(1, 1, 1, math.MaxInt), api.ErrRange},
		{"VLAN ahead of port", one(3, 1, 0, 0), api.ErrNone},
		{"VLAN ahead of address", one(3, 1<<40, 1, 0), api.ErrNone},
		{"port ahead of age", one(1, 1, 8, 300), api.ErrPort},
		{"address ahead of age", one(1, 1<<40, 1, -1), api.ErrPort},
		{"age of the first, VLAN of the second", append(one(1, 1, 1, 300), e(key(3, 1))...), api.ErrRange},
		{"port of the first, VLAN of the second", append(one(1, 1, 8, 0), e(key(3, 1))...), api.ErrPort},
		{"order ahead of VLAN", e(key(3, 1), key(3, 1)), api.ErrOrder},
		{"one of each", append(append(one(1, 1, 7, 0), one(2, 1, 1, 299)...), one(4094, 1, 3, 7)...), api.OK},
	} {
		changed(t, c.what, c.want, func(s *record.State) { s.Fdb = c.l })
	}
	changed(t, "too many that don't rise", api.ErrFull, func(s *record.State) { s.Fdb = make([]fdb.Entry, 5) })
	changed(t, "as many that don't rise", api.ErrOrder, func(s *record.State) { s.Fdb = make([]fdb.Entry, 4) })
	for live := 1; live <= 1000; live += 37 {
		for off, want := range []api.Errno{api.OK, api.ErrRange} {
			changed(t, "Live", want, func(s *record.State) { s.Live, s.Fdb = live, one(1, 1, 1, live-1+off) })
		}
	}
	s := record.State{Config: config(), Vlans: begun().Vlans, Fdb: one(1, 1, 1, 0)}
	checks(t, "no ports at all", s, api.ErrPort)
}

// P22.2: one port whose role isn't Disabled, at each place, whatever else is so.
func TestBegun(t *testing.T) {
	for _, s := range []record.State{{}, begun().Cold(), {Ports: make([]record.Port, 20)}, {Beat: 1, Config: config(), Fdb: begun().Fdb, Counts: count.Counts{1}}} {
		if valid.Begun(s) {
			t.Errorf("begun: %+v", s)
		}
	}
	if !valid.Begun(begun()) {
		t.Error("the begun state isn't")
	}
	for n := 1; n < 20; n++ {
		for at := range n {
			for _, role := range []int{record.Alternate, record.Backup, record.Root, record.Designated, -1, 5, math.MinInt, math.MaxInt} {
				s := record.State{Ports: make([]record.Port, n)}
				s.Ports[at].Role = role
				if !valid.Begun(s) {
					t.Errorf("of %d ports, the one at %d of the role %d: not begun", n, at, role)
				}
			}
		}
	}
	busy := settings()
	busy.Plain, busy.Agreed, busy.State, busy.Info, busy.Vector, busy.Age, busy.Life, busy.Wait, busy.Change = true, true, record.Forwarding, record.Mine, tells(0), 1, 2, 3, 4
	if valid.Begun(record.State{Ports: []record.Port{busy, busy}}) {
		t.Error("begun by something else than a role")
	}
}

// P22.1, P22.2: what is handed in stays as it is, the room behind its lists too.
func TestKeepsNothing(t *testing.T) {
	for _, change := range []func(s *record.State){
		func(*record.State) {},
		func(s *record.State) { s.Ports[root], s.Ports[down] = s.Ports[down], s.Ports[root] },
		func(s *record.State) { s.Fdb[0], s.Fdb[2] = s.Fdb[2], s.Fdb[0] },
		func(s *record.State) { s.Vlans[0], s.Vlans[1] = s.Vlans[1], s.Vlans[0] },
		func(s *record.State) {
			s.Ports, s.Vlans, s.Static, s.Fdb = s.Ports[:2], s.Vlans[:1], s.Static[:1], s.Fdb[:0]
		},
	} {
		s, was := begun(), begun()
		change(&s)
		change(&was)
		first, began := valid.Check(s), valid.Begun(s)
		if second := valid.Check(s); first != second || began != valid.Begun(s) {
			t.Errorf("Check tells %d, and then %d", first, second)
		}
		if !reflect.DeepEqual(whole(s), whole(was)) {
			t.Errorf("Check changed %+v\nto %+v", was, s)
		}
	}
}

// whole state: its lists with the room behind them.
func whole(s record.State) record.State {
	s.Ports, s.Vlans, s.Static, s.Fdb = s.Ports[:cap(s.Ports)], s.Vlans[:cap(s.Vlans)], s.Static[:cap(s.Static)], s.Fdb[:cap(s.Fdb)]
	return s
}
