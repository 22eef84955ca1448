package report_test

import (
	"math"
	"slices"
	"testing"

	"girder/addr"
	"girder/count"
	"girder/fdb"
	"girder/record"
	"girder/report"
)

// roleWords and stateWords: each role and each state as it is told.
var (
	roleWords  = map[int]string{0: "disabled", 1: "alternate", 2: "backup", 3: "root", 4: "designated"}
	stateWords = map[int]string{0: "discarding", 1: "learning", 2: "forwarding"}
)

// noCounts: the last line of a bridge that counted nothing.
const noCounts = "counts 0 0 0 0 0 0 0 0 0 0 0 0 0 0"

// tells: a report is just these lines.
func tells(t *testing.T, what string, got []string, want ...string) {
	t.Helper()
	if !slices.Equal(got, want) {
		t.Errorf("%s: is\n%q\nwant\n%q", what, got, want)
	}
}

// full state: no two of its numbers are alike.
func full() record.State {
	s := record.State{Config: record.Config{ID: 0x8001_0A1B2C3D4E5F, MaxAge: 41, Hello: 42, Delay: 43, Room: 44, Live: 45}, Beat: 46}
	s.Ports = []record.Port{
		{Cost: 200000000, Priority: 7, Role: record.Root, State: record.Forwarding, Info: record.Heard, Age: 5, Life: 6},
		{Cost: 20, Admin: true, Up: true, Edge: true, Role: record.Designated, State: record.Learning, Info: record.Mine, Wait: 8},
		{Cost: 3, Role: record.Alternate, State: record.Discarding},
	}
	for i := range 4 {
		s.Fdb = append(s.Fdb, fdb.Entry{Key: fdb.Key{Vid: 1, Mac: addr.FromInt(uint64(i))}, Port: 9})
	}
	for i := range s.Counts {
		s.Counts[i] = uint32(100 + i)
	}
	return s
}

// P29.1: all lines of a bridge, in their order.
func TestBridge(t *testing.T) {
	tells(t, "full", report.Bridge(full()),
		"bridge 32769 0a:1b:2c:3d:4e:5f stations 4",
		"port 1 root forwarding cost 200000000",
		"port 2 designated learning cost 20",
		"port 3 alternate discarding cost 3",
		"counts 100 101 102 103 104 105 106 107 108 109 110 111 112 113")
	tells(t, "zero", report.Bridge(record.State{}), "bridge 0 00:00:00:00:00:00 stations 0", noCounts)
	for _, l := range [][]record.Port{nil, {}} {
		tells(t, "no ports", report.Bridge(record.State{Config: record.Config{ID: 2}, Ports: l}), "bridge 0 00:00:00:00:00:02 stations 0", noCounts)
	}
}

// P29.1, the example: a port that is off.
func TestBridgeOff(t *testing.T) {
	tells(t, "off", report.Bridge(record.State{Ports: []record.Port{{Cost: 1}}}), "bridge 0 00:00:00:00:00:00 stations 0", "port 1 disabled discarding cost 1", noCounts)
}

// P29.1: the ID as a priority, in decimal digits, and an address as layer 3 shows it.
func TestBridgeID(t *testing.T) {
	for id, want := range map[addr.ID]string{
		0:                   "bridge 0 00:00:00:00:00:00 stations 0",
		1:                   "bridge 0 00:00:00:00:00:01 stations 0",
		1<<48 - 1:           "bridge 0 ff:ff:ff:ff:ff:ff stations 0",
		1 << 48:             "bridge 1 00:00:00:00:00:00 stations 0",
		0x0010_000000000010: "bridge 16 00:00:00:00:00:10 stations 0",
		0x8000_0180C2000009: "bridge 32768 01:80:c2:00:00:09 stations 0",
		math.MaxUint64:      "bridge 65535 ff:ff:ff:ff:ff:ff stations 0",
		0x7FFF_0000000000AB: "bridge 32767 00:00:00:00:00:ab stations 0",
	} {
		tells(t, "ID", report.Bridge(record.State{Config: record.Config{ID: id}}), want, noCounts)
	}
}

// P29.1: how many stations were learnt, behind whichever ports, as many as there may be and more.
func TestBridgeStations(t *testing.T) {
	for n, want := range map[int]string{0: "0", 1: "1", 9: "9", 10: "10", 64: "64", 100: "100", 1000: "1000"} {
		s := record.State{Config: record.Config{Room: 5}, Fdb: make([]fdb.Entry, n)}
		tells(t, "stations", report.Bridge(s), "bridge 0 00:00:00:00:00:00 stations "+want, noCounts)
	}
}

// P29.1: each role and each state, together; of other numbers a ?.
func TestBridgeKinds(t *testing.T) {
	others := []int{-1, -2, 6, 7, 255, 256, 1 << 32, 1<<32 + 1, math.MinInt, math.MaxInt}
	for _, role := range append(others, 0, 1, 2, 3, 4, 5) {
		for _, state := range append(others, 0, 1, 2, 3, 4, 5) {
			r, s := "?", "?"
			if w, ok := roleWords[role]; ok {
				r = w
			}
			if w, ok := stateWords[state]; ok {
				s = w
			}
			l := report.Bridge(record.State{Ports: []record.Port{{Role: role, State: state}}})
			tells(t, "kinds", l, "bridge 0 00:00:00:00:00:00 stations 0", "port 1 "+r+" "+s+" cost 0", noCounts)
		}
	}
}

// P29.1: costs in decimal digits, also those that no port may have.
func TestBridgeCost(t *testing.T) {
	for cost, want := range map[uint32]string{
		0: "0", 1: "1", 10: "10", 200000000: "200000000", 200000001: "200000001", 1<<31 - 1: "2147483647", 1 << 31: "2147483648", math.MaxUint32: "4294967295",
	} {
		l := report.Bridge(record.State{Ports: []record.Port{{Cost: 7}, {Cost: cost}}})
		tells(t, "cost", l, "bridge 0 00:00:00:00:00:00 stations 0", "port 1 disabled discarding cost 7", "port 2 disabled discarding cost "+want, noCounts)
	}
}

// P29.1: ports by their places, from 1 on; more than there may be, too.
func TestBridgePorts(t *testing.T) {
	numbers := []string{"1", "2", "3", "4", "5", "6", "7", "8", "9", "10", "11", "12", "13", "14", "15", "16", "17", "18", "19", "20"}
	for size := range len(numbers) + 1 {
		want := []string{"bridge 0 00:00:00:00:00:00 stations 0"}
		for _, n := range numbers[:size] {
			want = append(want, "port "+n+" backup discarding cost 5")
		}
		s := record.State{Ports: slices.Repeat([]record.Port{{Cost: 5, Role: record.Backup, Priority: 3}}, size)}
		tells(t, "ports", report.Bridge(s), append(want, noCounts)...)
	}
}

// P29.1: counts as layer 13 shows them, up to the greatest.
func TestBridgeCounts(t *testing.T) {
	for i := range count.Size {
		var s record.State
		s.Counts[i] = math.MaxUint32
		tells(t, "counts", report.Bridge(s), "bridge 0 00:00:00:00:00:00 stations 0", "counts "+s.Counts.Show())
	}
}

// P29.1: an answer is new memory, the state stays as it was, and its spare room too.
func TestBridgeKeepsNothing(t *testing.T) {
	s := full()
	spare := append(s.Ports, record.Port{Cost: 77})
	s.Ports = spare[:3]
	want := slices.Clone(report.Bridge(s))
	clear(report.Bridge(s))
	tells(t, "again", report.Bridge(s), want...)
	if !record.Same(s, full()) || spare[3] != (record.Port{Cost: 77}) {
		t.Errorf("the state is %+v", s)
	}
}
