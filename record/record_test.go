package record_test

import (
	"math"
	"testing"

	"girder/addr"
	"girder/classify"
	"girder/count"
	"girder/fdb"
	"girder/ports"
	"girder/record"
	"girder/static"
	"girder/vector"
	"girder/vlan"
)

// busy port: nothing of it is zero, and n tells it from others.
func busy(n int) record.Port {
	return record.Port{
		Port: classify.Port{Pvid: uint16(5 + n), Accept: classify.Untagged, Filter: true},
		Cost: uint32(20000 + n), Priority: 8 + n, Edge: true, Admin: true,
		Up: true, Plain: true, Agreed: true,
		Role: record.Root, State: record.Forwarding, Info: record.Heard,
		Vector: vector.Vector{Root: addr.ID(1 + n), Cost: uint32(2 + n), Bridge: addr.ID(3 + n), Port: uint16(4 + n)},
		Age:    11 + n, Life: 12 + n, Wait: 13 + n, Change: 14 + n,
	}
}

// learnt entry of a number.
func learnt(n int) fdb.Entry {
	return fdb.Entry{Key: fdb.Key{Vid: uint16(n), Mac: addr.FromInt(uint64(n))}, Port: n, Age: 30 + n}
}

// laid static entry of a number.
func laid(n int) static.Entry {
	return static.Entry{Key: fdb.Key{Vid: uint16(n), Mac: addr.FromInt(uint64(n))}, Ports: ports.Of(n)}
}

// of a number: a VLAN.
func of(n int) vlan.Vlan {
	return vlan.Vlan{Vid: uint16(n), Members: ports.Of(n, n+1), Untagged: ports.Of(n + 1)}
}

// config of which nothing is zero.
func config() record.Config {
	return record.Config{ID: addr.MakeID(0x8000, addr.FromInt(9)), MaxAge: 20, Hello: 2, Delay: 15, Room: 64, Live: 300}
}

// full state: nothing of it is zero, each list has three elements. Each call makes a new one.
func full() record.State {
	return record.State{
		Config: config(),
		Ports:  []record.Port{busy(1), busy(2), busy(3)},
		Vlans:  []vlan.Vlan{of(1), of(2), of(3)},
		Static: []static.Entry{laid(1), laid(2), laid(3)},
		Fdb:    []fdb.Entry{learnt(1), learnt(2), learnt(3)},
		Counts: count.Counts{1, 2, 3, 4, 5, 6, 7, 8, 9, 10, 11, 12, 13, 14},
		Beat:   77,
	}
}

// P14.1: the numbers that the chapter names.
func TestNumbers(t *testing.T) {
	for want, got := range []int{record.Disabled, record.Alternate, record.Backup, record.Root, record.Designated} {
		if got != want {
			t.Errorf("the role %d is %d", want, got)
		}
	}
	for want, got := range []int{record.Discarding, record.Learning, record.Forwarding} {
		if got != want {
			t.Errorf("the state %d is %d", want, got)
		}
	}
	for want, got := range []int{record.None, record.Mine, record.Heard} {
		if got != want {
			t.Errorf("the source %d is %d", want, got)
		}
	}
}

// P14.1: settings and config are a port's and a state's own; a port's may be asked whether they may be.
func TestPromoted(t *testing.T) {
	p, s := busy(1), full()
	if p.Pvid != 6 || p.Accept != classify.Untagged || !p.Filter || !p.Good() {
		t.Errorf("%+v", p)
	}
	if s.ID != config().ID || s.MaxAge != 20 || s.Hello != 2 || s.Delay != 15 || s.Room != 64 || s.Live != 300 {
		t.Errorf("%+v", s)
	}
	if p.Pvid = 0; p.Good() || p.Port != (classify.Port{Accept: classify.Untagged, Filter: true}) {
		t.Errorf("%+v", p)
	}
}

// P14.1: a link that is up, and a port that may take part; nothing else counts.
func TestOn(t *testing.T) {
	for _, p := range []record.Port{{}, busy(1), {Edge: true, Plain: true, Agreed: true}, {Role: record.Designated, State: record.Forwarding}} {
		for _, up := range []bool{false, true} {
			for _, admin := range []bool{false, true} {
				p.Up, p.Admin = up, admin
				if got := p.On(); got != (up && admin) {
					t.Errorf("%+v: On tells %v", p, got)
				}
			}
		}
	}
}

// P14.1, the example, and what is above 2^16 or below 0.
func TestID(t *testing.T) {
	for _, c := range []struct {
		priority, number int
		want             uint16
	}{
		{8, 3, 0x8003},
		{0, 1, 0x0001},
		{0, 0, 0x0000},
		{1, 1, 0x1001},
		{15, 16, 0xF010},
		{15, 0, 0xF000},
		{8, 4095, 0x8FFF},
		{8, 4096, 0x9000},
		{15, 4096, 0x0000},
		{15, 4097, 0x0001},
		{16, 1, 0x0001},
		{17, 2, 0x1002},
		{256, 5, 0x0005},
		{0, 65535, 0xFFFF},
		{0, 65536, 0x0000},
		{8, 65539, 0x8003},
		{0, -1, 0xFFFF},
		{1, -1, 0x0FFF},
		{-1, 1, 0xF001},
		{-1, -1, 0xEFFF},
		{-8, 3, 0x8003},
		{-16, 3, 0x0003},
		{math.MaxInt, 1, 0xF001},
		{math.MinInt, 1, 0x0001},
		{1, math.MaxInt, 0x0FFF},
		{1, math.MinInt, 0x1000},
		{math.MaxInt, math.MaxInt, 0xEFFF},
		{math.MinInt, math.MinInt, 0x0000},
		{1<<32 + 8, 1<<32 + 3, 0x8003},
	} {
		for _, p := range []record.Port{{}, busy(1)} {
			p.Priority = c.priority
			if got := p.ID(c.number); got != c.want {
				t.Errorf("ID(%d) of the priority %d is %04X, want %04X", c.number, c.priority, got, c.want)
			}
		}
	}
}

// P14.1: every priority with every number that a bridge's ports have.
func TestIDOfEach(t *testing.T) {
	for priority := range 16 {
		for number := 1; number <= 16; number++ {
			p := record.Port{Priority: priority}
			if got := p.ID(number); int(got) != priority<<12|number {
				t.Errorf("ID(%d) of the priority %d is %04X", number, priority, got)
			}
		}
	}
}
