package script_test

import (
	"slices"
	"strconv"
	"strings"
	"testing"

	"girder/script"
)

// verbs with as many numbers as each has, all good ones; of notes and the start, and of nets.
var (
	noting = []string{"bridge 1 0 2", "cable 0 1 1 1", "cost 0 1 5", "start"}
	asking = []string{"tick 1", "flow 9", "cut 0", "join 0", "lose 0 0", "come 0 0", "upgrade 0 3", "frame 0 1 4 6", "show 0", "net"}
)

// answers: a script answers a line by just these.
func answers(t *testing.T, s *script.Script, line string, want ...string) {
	t.Helper()
	if got := s.Do(line); !slices.Equal(got, want) {
		t.Errorf("%q: is %q, want %q", line, got, want)
	}
}

// fails: a script answers each line by an error.
func fails(t *testing.T, s *script.Script, number int, lines ...string) {
	t.Helper()
	for _, l := range lines {
		answers(t, s, l, "error "+strconv.Itoa(number))
	}
}

// does lines, that all are ok.
func does(t *testing.T, s *script.Script, lines ...string) {
	t.Helper()
	for _, l := range lines {
		answers(t, s, l, "ok")
	}
}

// did: a new script behind lines that all are ok.
func did(t *testing.T, lines ...string) *script.Script {
	t.Helper()
	s := script.New()
	does(t, s, lines...)
	return s
}

// twins: bridges 2 and 1, that two cables join; behind the start.
func twins(t *testing.T) *script.Script {
	t.Helper()
	return did(t, "bridge 2 0 2", "bridge 1 0 2", "cable 0 1 1 1", "cable 0 2 1 2", "start")
}

// calm twins: the bridge 1's ports are designated, the bridge 2's port 1 is its root port.
func calm(t *testing.T) *script.Script {
	t.Helper()
	s := twins(t)
	does(t, s, "tick 30")
	s.Do("flow 99")
	return s
}

// net of a script, as it tells it.
func net(s *script.Script) string {
	return strings.Join(s.Do("net"), "\n")
}

// unchanged: a script's net is as it was told.
func unchanged(t *testing.T, what string, s *script.Script, was string) {
	t.Helper()
	if now := net(s); now != was {
		t.Errorf("%s: is\n%s\nwas\n%s", what, now, was)
	}
}

// P30.1: of nil there is no answer at all.
func TestNil(t *testing.T) {
	var s *script.Script
	for _, l := range slices.Concat(noting, asking, []string{"", "what", "tick x", "tick 1 2"}) {
		if got := s.Do(l); len(got) != 0 {
			t.Errorf("%q: %q", l, got)
		}
	}
}

// P30.1: nothing is noted in a new script, and each has its own.
func TestNew(t *testing.T) {
	s, other := script.New(), script.New()
	does(t, other, "bridge 1 0 2", "bridge 2 0 2", "cable 0 1 1 1", "start")
	fails(t, s, 12, asking...)
	fails(t, s, 11, "cost 0 1 5")
	does(t, s, "start")
	answers(t, s, "net", "settled yes", "consistent yes", "looping no")
	if len(other.Do("show 1")) != 4 {
		t.Error("another script's net is another one")
	}
}

// P30.1: first words that are none.
func TestVerbs(t *testing.T) {
	for _, s := range []*script.Script{script.New(), twins(t)} {
		fails(t, s, 17, "", " ", "what", "what 1", "#", "# start", "#start", "Start", "NET", "star", "starts", "nets", "1", "0 1", "bridge1 0 2", "tick\t1", "net\n", "\nnet", "net\r", "net\x00", "\xff", "ne\u0301t", "error 17", "ok")
		for _, l := range slices.Concat(noting, asking) {
			fails(t, s, 17, strings.ToUpper(l[:1])+l[1:], "x"+l, " "+l, "\t"+l)
		}
	}
}

// P30.1: too few words, and too many; whether they are numbers isn't asked ahead of that, nor whether there is a net.
func TestWordCounts(t *testing.T) {
	for _, s := range []*script.Script{script.New(), twins(t)} {
		for _, l := range slices.Concat(noting, asking) {
			words := strings.Split(l, " ")
			for size := 1; size < len(words); size++ {
				fails(t, s, 17, strings.Join(words[:size], " "))
			}
			fails(t, s, 17, l+" 0", l+" 1 2", l+" x", l+" 999999999999", l+"  ", l+" #")
			if len(words) > 2 {
				fails(t, s, 17, words[0]+" x", words[0]+" 01")
			}
			if len(words) > 1 {
				fails(t, s, 17, strings.Replace(l, " ", "  ", 1), l+" ")
			}
		}
	}
}

// noNumbers: words that are none.
var noNumbers = []string{"x", "-1", "+1", "-0", "00", "01", "007", "1000000000", "9999999999", "18446744073709551617", "4294967296", "1.0", "1,0", "1_0", "0x1", "1e1", "1x", "x1", "0b1", "０", "١", "\t1", "1\t", "1\n", "1\r", "1\x00", "#", "one", "000000001", "0000000000"}

// P30.1: one of the words isn't a number, wherever it stands; whether there is a net isn't asked ahead of that, nor what the others are.
func TestNumbers(t *testing.T) {
	for _, s := range []*script.Script{script.New(), twins(t)} {
		for _, l := range slices.Concat(noting, asking) {
			words := strings.Split(l, " ")
			for at := 1; at < len(words); at++ {
				for _, bad := range noNumbers {
					l := slices.Clone(words)
					l[at] = bad
					fails(t, s, 18, strings.Join(l, " "))
					for other := 1; other < len(words); other++ {
						if other != at {
							l[other] = "999999999"
						}
					}
					fails(t, s, 18, strings.Join(l, " "))
				}
			}
		}
	}
}

// P30.1: numbers have nine digits at most; a nought alone is one.
func TestNumbersThatAre(t *testing.T) {
	s := script.New()
	does(t, s, "bridge 0 0 0", "bridge 10 0 1", "cable 999999999 999999999 999999999 999999999", "cable 0 0 0 0")
	fails(t, s, 6, "bridge 999999999 0 0", "bridge 0 999999999 0", "bridge 0 0 999999999", "cost 1 1 999999999")
	fails(t, s, 11, "cost 999999999 1 1", "cost 0 999999999 1")
	s = twins(t)
	fails(t, s, 11, "cut 999999999", "join 999999999", "lose 999999999 0", "lose 0 999999999", "come 999999999 0", "come 0 999999999", "upgrade 999999999 999999999", "frame 999999999 999999999 999999999 999999999", "show 999999999")
	fails(t, s, 14, "frame 0 999999999 4 6")
	fails(t, s, 6, "tick 999999999")
	does(t, s, "frame 0 1 999999999 999999999", "tick 0")
	answers(t, s, "flow 0", "ok 0")
	if got := s.Do("flow 999999999"); len(got) != 1 || !strings.HasPrefix(got[0], "ok ") || got[0] == "ok 0" {
		t.Errorf("flow: %q", got)
	}
}

// P30.1: what asks for a net ahead of the start, and what notes behind it; what else is wrong isn't asked ahead of that. Nothing is otherwise by it.
func TestMode(t *testing.T) {
	s := script.New()
	fails(t, s, 12, asking...)
	fails(t, s, 12, "tick 1001", "tick 0", "flow 0", "cut 9", "upgrade 0 4", "frame 9 9 9 9", "show 9", "lose 9 9", "come 9 9")
	does(t, s, "bridge 2 0 2")
	fails(t, s, 12, asking...)
	does(t, s, "start")
	was := net(s)
	fails(t, s, 12, noting...)
	fails(t, s, 12, "bridge 65536 0 0", "bridge 0 65536 0", "bridge 1 0 17", "cost 9 9 9", "cost 0 1 0", "cost 0 1 200000001", "start")
	unchanged(t, "notes behind the start", s, was)
	for range 30 {
		fails(t, s, 12, noting...)
	}
	unchanged(t, "more of them", s, was)
}

// P30.1: all that is wrong with a bridge, at the edges; and how many there may be.
func TestBridges(t *testing.T) {
	s := script.New()
	bad := []string{"bridge 65536 0 2", "bridge 0 65536 2", "bridge 1 0 17", "bridge 65536 65536 17", "bridge 131071 0 1", "bridge 4294967 0 1", "bridge 0 131072 1", "bridge 0 0 65536"}
	fails(t, s, 6, bad...)
	does(t, s, "bridge 0 0 0", "bridge 65535 0 16", "bridge 65534 65535 1")
	fails(t, s, 6, bad...)
	does(t, s, "bridge 3 3 15", "bridge 4 1 2", "bridge 4 2 2", "bridge 6 0 0", "bridge 7 0 2")
	fails(t, s, 13, "bridge 8 0 2", "bridge 7 0 2", "bridge 0 0 0", "bridge 65535 65535 16")
	fails(t, s, 6, bad...)
	does(t, s, "start")
	for i, want := range []string{"0 00:00:00:00:00:00", "0 00:00:00:00:ff:ff", "65535 00:00:00:00:ff:fe", "3 00:00:00:00:00:03", "1 00:00:00:00:00:04", "2 00:00:00:00:00:04", "0 00:00:00:00:00:06", "0 00:00:00:00:00:07"} {
		got := s.Do("show " + strconv.Itoa(i))
		if ports := []int{0, 16, 1, 15, 2, 2, 0, 2}[i]; len(got) != 2+ports || got[0] != "bridge "+want+" stations 0" {
			t.Errorf("bridge %d: %q", i, got)
		}
	}
	fails(t, s, 11, "show 8", "upgrade 8 3", "frame 8 1 4 6")
}

// P30.1: a noted bridge's ports: each costs 1, and is off, where no cable joins it.
func TestBridgePorts(t *testing.T) {
	answers(t, did(t, "bridge 258 9 3", "start"), "show 0",
		"bridge 9 00:00:00:00:01:02 stations 0",
		"port 1 disabled discarding cost 1",
		"port 2 disabled discarding cost 1",
		"port 3 disabled discarding cost 1",
		"counts 0 0 0 0 0 0 0 0 0 0 0 0 0 0")
}

// P30.1: how many cables there may be; whether they may be the start asks alone.
func TestCables(t *testing.T) {
	s := script.New()
	for i := range 8 {
		does(t, s, "bridge "+strconv.Itoa(9-i)+" 0 16")
	}
	for i := range 24 {
		a, b := strconv.Itoa(i%8), strconv.Itoa((i+1)%8)
		does(t, s, "cable "+a+" "+strconv.Itoa(1+i/8)+" "+b+" "+strconv.Itoa(16-i/8))
	}
	fails(t, s, 13, "cable 0 7 1 7", "cable 0 1 1 1", "cable 0 0 0 0")
	does(t, s, "start", "cut 23")
	fails(t, s, 11, "cut 24")
	does(t, s, "tick 40")
	if got := net(s); !strings.HasSuffix(got, "settled yes\nconsistent yes\nlooping no") {
		t.Errorf("many: %s", got)
	}
}

// P30.1: costs of the ports that there are, at the edges; the last one counts.
func TestCost(t *testing.T) {
	s := did(t, "bridge 2 0 2", "bridge 1 0 16", "bridge 3 0 0")
	fails(t, s, 11, "cost 3 1 5", "cost 8 1 5", "cost 0 0 5", "cost 0 3 5", "cost 0 16 5", "cost 1 0 5", "cost 1 17 5", "cost 2 1 5", "cost 2 0 5")
	fails(t, s, 11, "cost 3 1 0", "cost 0 3 0", "cost 0 0 200000001", "cost 3 1 200000001")
	fails(t, s, 6, "cost 0 1 0", "cost 0 2 200000001", "cost 1 16 0", "cost 1 16 999999999")
	does(t, s, "cost 0 1 200000000", "cost 0 2 7", "cost 0 2 1", "cost 0 2 6", "cost 1 16 2")
	fails(t, s, 6, "cost 0 1 0", "cost 0 2 200000001")
	does(t, s, "start")
	answers(t, s, "show 0", "bridge 0 00:00:00:00:00:02 stations 0", "port 1 disabled discarding cost 200000000", "port 2 disabled discarding cost 6", "counts 0 0 0 0 0 0 0 0 0 0 0 0 0 0")
	got := s.Do("show 1")
	for i := 1; i <= 16; i++ {
		want := "port " + strconv.Itoa(i) + " disabled discarding cost 1"
		if i == 16 {
			want = "port 16 disabled discarding cost 2"
		}
		if got[i] != want {
			t.Errorf("is %q, want %q", got[i], want)
		}
	}
}

// P30.1: costs decide which way is chosen.
func TestCostCounts(t *testing.T) {
	s := did(t, "bridge 2 0 2", "bridge 1 0 2", "cable 0 1 1 1", "cable 0 2 1 2", "cost 0 1 5", "start", "tick 9")
	if got := s.Do("show 0"); got[1] != "port 1 alternate discarding cost 5" || got[2] != "port 2 root forwarding cost 1" {
		t.Errorf("is %q", got)
	}
}

// P30.1: a start that fails by layer 27's error leaves no net, and all that was noted.
func TestStartFails(t *testing.T) {
	s := did(t, "bridge 1 0 2", "bridge 1 0 2", "cable 0 3 1 1")
	fails(t, s, 10, "start", "start")
	fails(t, s, 12, asking...)
	for _, cable := range []string{"cable 0 1 2 1", "cable 2 1 0 1", "cable 0 1 0 2", "cable 0 1 0 1", "cable 0 0 1 1", "cable 0 1 1 0", "cable 0 1 1 3", "cable 0 17 1 1"} {
		s := did(t, "bridge 1 0 2", "bridge 1 1 2", cable)
		fails(t, s, 14, "start")
		fails(t, s, 12, asking...)
		does(t, s, "cable 0 2 1 2", "cost 0 1 9")
		fails(t, s, 14, "start")
	}
	s = did(t, "bridge 1 0 2", "bridge 1 1 2", "cable 0 1 1 1", "cable 1 1 0 2")
	fails(t, s, 14, "start")
	s = did(t, "bridge 1 0 2", "cable 0 2 1 1", "cost 0 1 9")
	fails(t, s, 14, "start")
	does(t, s, "bridge 2 0 1", "cost 0 2 8", "start")
	fails(t, s, 12, "start")
	answers(t, s, "show 0", "bridge 0 00:00:00:00:00:01 stations 0", "port 1 disabled discarding cost 9", "port 2 designated discarding cost 8", "counts 0 0 0 0 0 0 0 0 0 0 0 0 0 1")
}

// P30.1: an answer is new memory.
func TestNewMemory(t *testing.T) {
	s := calm(t)
	was := net(s)
	for _, l := range []string{"net", "show 0", "tick 0", "what", "flow 0"} {
		want := slices.Clone(s.Do(l))
		clear(s.Do(l))
		answers(t, s, l, want...)
	}
	unchanged(t, "lines changed", s, was)
}
