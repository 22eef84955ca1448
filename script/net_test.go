package script_test

import (
	"strconv"
	"strings"
	"testing"

	"girder/script"
)

// counted: so many of a kind were counted by a bridge, as it shows them.
func counted(t *testing.T, s *script.Script, bridge, kind, want int) {
	t.Helper()
	l := s.Do("show " + strconv.Itoa(bridge))
	words := strings.Split(l[len(l)-1], " ")
	if got := words[1+kind]; got != strconv.Itoa(want) {
		t.Errorf("bridge %d: %s of the kind %d, want %d", bridge, got, kind, want)
	}
}

// The kinds of counts that are asked for here.
const (
	closed  = 6
	sent    = 7
	learnt  = 8
	evicted = 9
	aged    = 10
	heard   = 11
	told    = 13
)

// stations: so many were learnt by a bridge, as it shows them.
func stations(t *testing.T, s *script.Script, bridge, want int) {
	t.Helper()
	if l := s.Do("show " + strconv.Itoa(bridge)); !strings.HasSuffix(l[0], " stations "+strconv.Itoa(want)) {
		t.Errorf("bridge %d: %q, want %d stations", bridge, l[0], want)
	}
}

// shows a bridge's port so.
func shows(t *testing.T, s *script.Script, bridge, port int, want string) {
	t.Helper()
	want = "port " + strconv.Itoa(port) + " " + want
	if l := s.Do("show " + strconv.Itoa(bridge)); l[port] != want {
		t.Errorf("bridge %d: %q, want %q", bridge, l[port], want)
	}
}

// drained: nothing is under way any more in the cable, it is all lost; so many from each end.
func drained(t *testing.T, s *script.Script, cable string, want ...int) {
	t.Helper()
	for end, n := range want {
		l := "lose " + cable + " " + strconv.Itoa(end)
		for range n {
			does(t, s, l)
		}
		fails(t, s, 11, l)
	}
}

// pair of bridges, 2 and 1, of two ports each, that one cable joins; calm, so that the root alone tells, once a tick.
func pair(t *testing.T) *script.Script {
	t.Helper()
	s := did(t, "bridge 2 0 2", "bridge 1 0 2", "cable 0 1 1 2", "start", "tick 30")
	s.Do("flow 99")
	return s
}

// frames that came at all of the twins' ports, as they count them.
func frames(s *script.Script) int {
	sum := 0
	for _, l := range []string{"show 0", "show 1"} {
		lines := s.Do(l)
		n, _ := strconv.Atoi(strings.Split(lines[len(lines)-1], " ")[1])
		sum += n
	}
	return sum
}

// P30.1: a tick: all that is under way comes, and then each bridge ticks: what it tells by that is under way.
func TestTick(t *testing.T) {
	s := twins(t)
	was := net(s)
	does(t, s, "tick 0")
	unchanged(t, "tick 0", s, was)
	fails(t, s, 6, "tick 1001", "tick 1002", "tick 65537", "tick 999999999")
	unchanged(t, "tick 1001", s, was)
	drained(t, s, "0", 1, 1)
	drained(t, s, "1", 1, 1)
	does(t, s, "tick 1")
	unheard := net(s)
	drained(t, s, "0", 1, 1)
	drained(t, s, "1", 1, 1)
	unchanged(t, "lost", s, unheard)
	if frames(s) != 0 {
		t.Errorf("%d came of what was lost", frames(s))
	}
	s = pair(t)
	came := frames(s)
	does(t, s, "tick 1")
	if frames(s) != came {
		t.Errorf("%d came, want none", frames(s)-came)
	}
	answers(t, s, "flow 99", "ok 1") // the root told
	does(t, s, "tick 1000")
	if frames(s) != came+1000 {
		t.Errorf("%d came by a tick and 1000 others, want one each but for the last one", frames(s)-came)
	}
}

// P30.1: so many ticks are as many times one.
func TestTicks(t *testing.T) {
	for _, n := range []int{0, 1, 2, 3, 7, 20, 999, 1000} {
		one, all := twins(t), twins(t)
		for range n {
			does(t, one, "tick 1")
		}
		does(t, all, "tick "+strconv.Itoa(n))
		unchanged(t, "ticks", all, net(one))
	}
}

// looped twins: as all that they tell is lost, all their ports forward, and a frame goes round.
func looped(t *testing.T) *script.Script {
	t.Helper()
	s := twins(t)
	drained(t, s, "0", 1, 1)
	drained(t, s, "1", 1, 1)
	for range 4 {
		does(t, s, "tick 1")
		for _, l := range []string{"lose 0 0", "lose 0 1", "lose 1 0", "lose 1 1"} {
			does(t, s, l)
		}
	}
	if got := net(s); !strings.HasSuffix(got, "settled no\nconsistent no\nlooping yes") {
		t.Errorf("is %s", got)
	}
	return s
}

// P30.1: flow tells how many came; no more than are asked for.
func TestFlow(t *testing.T) {
	s := twins(t)
	answers(t, s, "flow 0", "ok 0")
	answers(t, s, "flow 3", "ok 3")
	if got := frames(s); got != 3 {
		t.Errorf("%d came, want 3", got)
	}
	got := s.Do("flow 999")
	if len(got) != 1 || got[0] != "ok "+strconv.Itoa(frames(s)-3) || frames(s) < 6 {
		t.Errorf("is %q, where %d came", got, frames(s)-3)
	}
	answers(t, s, "flow 1", "ok 0")
	s = looped(t)
	answers(t, s, "flow 99", "ok 0")
	does(t, s, "frame 0 1 4 6")
	for _, n := range []int{1, 10, 999, 10001, 12345} {
		came := frames(s)
		answers(t, s, "flow "+strconv.Itoa(n), "ok "+strconv.Itoa(n))
		if frames(s) != came+n {
			t.Errorf("%d came, want %d", frames(s)-came, n)
		}
	}
}

// P30.1: no more than 10000 frames come ahead of a tick.
func TestTickFlow(t *testing.T) {
	s := looped(t)
	does(t, s, "frame 0 1 4 6", "tick 1")
	if got := frames(s); got != 10001 {
		t.Errorf("%d came, want 10000 and the first one", got)
	}
	does(t, s, "tick 1")
	if got := frames(s); got <= 10001 || got > 20001 {
		t.Errorf("%d came by two ticks", got)
	}
}

// P30.1: a cable is cut and joined, once and twice; there are no others.
func TestCutAndJoin(t *testing.T) {
	s := calm(t)
	was := net(s)
	fails(t, s, 11, "cut 2", "join 2", "cut 3", "join 24", "cut 65536")
	does(t, s, "join 0", "join 1")
	unchanged(t, "joined already", s, was)
	does(t, s, "cut 0")
	shows(t, s, 0, 1, "disabled discarding cost 1")
	shows(t, s, 0, 2, "root forwarding cost 1")
	shows(t, s, 1, 1, "disabled discarding cost 1")
	was = net(s)
	does(t, s, "cut 0")
	unchanged(t, "cut already", s, was)
	fails(t, s, 11, "come 0 0", "come 0 1", "lose 0 0", "lose 0 1")
	does(t, s, "cut 1")
	shows(t, s, 0, 2, "disabled discarding cost 1")
	does(t, s, "join 0", "join 1")
	shows(t, s, 0, 1, "designated discarding cost 1")
	does(t, s, "tick 9")
	s.Do("flow 99")
	shows(t, s, 0, 1, "root forwarding cost 1")
	shows(t, s, 0, 2, "alternate discarding cost 1")
}

// P30.1: one comes, or is lost, from that end of that cable; where there is none, and at ends and cables that there aren't, nothing is otherwise.
func TestComeAndLose(t *testing.T) {
	for cable, c := range []string{"0 ", "1 "} {
		for end := range 2 {
			e := strconv.Itoa(end)
			s := twins(t)
			does(t, s, "come "+c+e)
			counted(t, s, 1-end, heard, 1)
			counted(t, s, end, heard, 0)
			fails(t, s, 11, "come "+c+e, "lose "+c+e)
			s = twins(t)
			was := net(s)
			does(t, s, "lose "+c+e)
			unchanged(t, "lose", s, was)
			fails(t, s, 11, "lose "+c+e, "come "+c+e)
			fails(t, s, 11, "come "+c+"2", "lose "+c+"2", "come "+c+"256", "lose "+c+"256", "come 2 "+e, "lose 2 "+e)
			unchanged(t, "none", s, was)
			left := [2][2]int{{1, 1}, {1, 1}}
			left[cable][end] = 0
			drained(t, s, "0", left[0][:]...)
			drained(t, s, "1", left[1][:]...)
		}
	}
}

// P30.1: an upgrade of each version; in version 3 nothing is otherwise.
func TestUpgrade(t *testing.T) {
	for i := range 2 {
		a := "upgrade " + strconv.Itoa(i)
		s := calm(t)
		was := net(s)
		fails(t, s, 8, a+" 0", a+" 4", a+" 5", a+" 255", a+" 256")
		unchanged(t, "no version", s, was)
		does(t, s, a+" 3")
		unchanged(t, "version 3", s, was)
		for _, version := range []string{" 1", " 2"} {
			s := calm(t)
			does(t, s, a+version)
			shows(t, s, i, 1, "designated discarding cost 1")
			shows(t, s, i, 2, "designated discarding cost 1")
			does(t, s, "tick 30")
			s.Do("flow 99")
			shows(t, s, 0, 1, "root forwarding cost 1")
			shows(t, s, 1, 1, "designated forwarding cost 1")
		}
	}
	s := calm(t)
	fails(t, s, 11, "upgrade 2 3", "upgrade 2 4", "upgrade 9 0", "upgrade 65536 1")
}

// P30.1: numbers above a byte are no versions, also those that would be one, cut to a byte.
func TestUpgradeWrap(t *testing.T) {
	s := calm(t)
	was := net(s)
	fails(t, s, 8, "upgrade 0 257", "upgrade 0 258", "upgrade 0 259", "upgrade 1 513", "upgrade 1 65537", "upgrade 1 65539", "upgrade 0 16777219", "upgrade 0 999999999")
	unchanged(t, "no version", s, was)
	fails(t, s, 11, "upgrade 2 259", "upgrade 2 257")
}

// P30.1: a frame that comes at a bridge's port; its station is learnt, and it is sent to where the other one was seen, or to all others.
func TestFrame(t *testing.T) {
	s := did(t, "bridge 9 0 4", "bridge 1 0 1", "bridge 2 0 1", "bridge 3 0 1", "cable 0 1 1 1", "cable 0 2 2 1", "cable 0 3 3 1", "start", "tick 40")
	s.Do("flow 99")
	fails(t, s, 11, "frame 4 1 4 6", "frame 4 9 4 6", "frame 8 0 4 6")
	fails(t, s, 14, "frame 0 0 4 6", "frame 0 5 4 6", "frame 0 17 4 6", "frame 1 2 4 6", "frame 3 256 4 6")
	does(t, s, "frame 0 1 4 6")
	counted(t, s, 0, learnt, 1)
	counted(t, s, 0, sent, 2)
	stations(t, s, 0, 1)
	does(t, s, "come 1 0", "come 2 0")
	stations(t, s, 2, 1)
	fails(t, s, 11, "come 0 0", "come 0 1", "come 1 0", "come 2 0")
	does(t, s, "frame 0 2 6 4") // the station 4 was seen behind the port 1
	counted(t, s, 0, sent, 3)
	stations(t, s, 0, 2)
	fails(t, s, 11, "come 2 0", "come 1 0")
	does(t, s, "come 0 0")
	does(t, s, "frame 0 3 7 6")
	does(t, s, "come 1 0")
	counted(t, s, 0, closed, 0)
	does(t, s, "frame 0 4 7 6") // no cable joins it
	counted(t, s, 0, closed, 1)
	stations(t, s, 0, 3)
}

// P30.1: each number is a station of its own; 0, and those of nine digits, too.
func TestFrameStations(t *testing.T) {
	s := calm(t)
	for i, from := range []string{"0", "2", "65536", "65538", "16777216", "999999999", "999999998", "1", "10"} {
		does(t, s, "frame 0 1 "+from+" 6")
		stations(t, s, 0, i+1)
		does(t, s, "frame 0 1 "+from+" 7")
		stations(t, s, 0, i+1)
	}
	counted(t, s, 0, learnt, 9)
	counted(t, s, 0, 1, 0)
	counted(t, s, 0, 2, 0)
}

// P30.1: a bridge has room for 64 stations, and keeps each for 100 ticks.
func TestRoomAndLive(t *testing.T) {
	s := pair(t)
	for i := range 64 {
		does(t, s, "frame 0 1 "+strconv.Itoa(100+i)+" 6")
	}
	stations(t, s, 0, 64)
	counted(t, s, 0, evicted, 0)
	does(t, s, "frame 0 1 99 6")
	stations(t, s, 0, 64)
	counted(t, s, 0, evicted, 1)
	does(t, s, "tick 99")
	stations(t, s, 0, 64)
	counted(t, s, 0, aged, 0)
	does(t, s, "tick 1")
	stations(t, s, 0, 0)
	counted(t, s, 0, aged, 64)
}

// P30.1: a bridge's Hello is 1, its Delay 2; it forgets what it isn't told any more behind three Hellos.
func TestTimes(t *testing.T) {
	s := did(t, "bridge 2 0 1", "bridge 1 0 1", "cable 0 1 1 1", "start")
	drained(t, s, "0", 1, 1)
	for i, state := range []string{"discarding", "learning", "learning", "forwarding", "forwarding"} {
		does(t, s, "tick 1")
		drained(t, s, "0", 1, 1)
		for b := range 2 {
			shows(t, s, b, 1, "designated "+state+" cost 1")
			counted(t, s, b, told, 2+i)
		}
	}
	does(t, s, "tick 30", "tick 1")
	drained(t, s, "0", 0, 1)
	for i, role := range []string{"root", "root", "designated"} {
		if i > 0 {
			does(t, s, "tick 1")
			s.Do("lose 0 1")
		}
		if got := s.Do("show 0")[1]; !strings.HasPrefix(got, "port 1 "+role) {
			t.Errorf("behind %d ticks: %q, want %s", i+1, got, role)
		}
	}
}

// P30.1: show and net tell layer 29's lines.
func TestShowAndNet(t *testing.T) {
	s := twins(t)
	answers(t, s, "show 1",
		"bridge 0 00:00:00:00:00:01 stations 0",
		"port 1 designated discarding cost 1",
		"port 2 designated discarding cost 1",
		"counts 0 0 0 0 0 0 0 0 0 0 0 0 0 2")
	fails(t, s, 11, "show 2", "show 3", "show 256")
	want := append(s.Do("show 0"), s.Do("show 1")...)
	answers(t, s, "net", append(want, "settled no", "consistent no", "looping no")...)
	does(t, s, "tick 9")
	s.Do("flow 99")
	want = append(s.Do("show 0"), s.Do("show 1")...)
	answers(t, s, "net", append(want, "settled yes", "consistent yes", "looping no")...)
}
