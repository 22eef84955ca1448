package script_test

import (
	"regexp"
	"slices"
	"strconv"
	"strings"
	"testing"

	"girder/addr"
	"girder/api"
	"girder/bridge"
	"girder/classify"
	"girder/frame"
	layer "girder/net"
	"girder/record"
	"girder/report"
	"girder/script"
	"girder/vlan"
)

// words: a script that does what the chapter says, sentence by sentence.
type words struct {
	states []record.State
	cables []layer.Cable
	net    *layer.Net
}

// sizes: how many numbers stand behind each first word.
var sizes = map[string]int{"bridge": 3, "cable": 4, "cost": 3, "start": 0, "tick": 1, "flow": 1, "cut": 1, "join": 1, "lose": 2, "come": 2, "upgrade": 2, "frame": 4, "show": 1, "net": 0}

// aNumber is decimal digits, at most nine, without a nought ahead of others.
var aNumber = regexp.MustCompile(`^(0|[1-9][0-9]{0,8})$`)

// say what is answered to a line.
func (w *words) say(line string) []string {
	l := strings.Split(line, " ")
	size, there := sizes[l[0]]
	if !there || len(l)-1 != size {
		return []string{"error 17"}
	}
	var n [4]int
	for i, x := range l[1:] {
		if !aNumber.MatchString(x) {
			return []string{"error 18"}
		}
		n[i], _ = strconv.Atoi(x)
	}
	ahead := slices.Contains([]string{"bridge", "cable", "cost", "start"}, l[0])
	if ahead == (w.net != nil) {
		return []string{"error 12"}
	}
	if ahead {
		return outcome(w.note(l[0], n))
	}
	return w.ask(l[0], n)
}

// outcome of a number of an error, 0 where there is none.
func outcome(err int) []string {
	if err == 0 {
		return []string{"ok"}
	}
	return []string{"error " + strconv.Itoa(err)}
}

// note what is noted ahead of the start, and start.
func (w *words) note(verb string, n [4]int) int {
	switch verb {
	case "bridge":
		if n[0] > 65535 || n[1] > 65535 || n[2] > 16 {
			return 6
		}
		if len(w.states) == 8 {
			return 13
		}
		s := record.State{Config: record.Config{ID: addr.ID(n[1])<<48 | addr.ID(n[0]), MaxAge: 8, Hello: 1, Delay: 2, Room: 64, Live: 100}}
		s.Ports = slices.Repeat([]record.Port{{Port: classify.Port{Pvid: 1}, Cost: 1, Admin: true}}, n[2])
		s.Vlans = []vlan.Vlan{{Vid: 1, Members: 1<<n[2] - 1, Untagged: 1<<n[2] - 1}}
		w.states = append(w.states, s)
	case "cable":
		if len(w.cables) == 24 {
			return 13
		}
		w.cables = append(w.cables, layer.Cable{A: n[0], PortA: n[1], B: n[2], PortB: n[3]})
	case "cost":
		if n[0] >= len(w.states) || n[1] == 0 || n[1] > len(w.states[n[0]].Ports) {
			return 11
		}
		if n[2] == 0 || n[2] > 200000000 {
			return 6
		}
		w.states[n[0]].Ports[n[1]-1].Cost = uint32(n[2])
	case "start":
		made, err := layer.New(w.states, w.cables)
		w.net = made
		return int(err)
	}
	return 0
}

// ask for something of the net.
func (w *words) ask(verb string, n [4]int) []string {
	switch verb {
	case "tick":
		if n[0] > 1000 {
			return outcome(6)
		}
		for range n[0] {
			w.net.Flow(10000)
			for i := range w.states {
				w.net.Tick(i)
			}
		}
	case "flow":
		return []string{"ok " + strconv.Itoa(w.net.Flow(n[0]))}
	case "cut", "join":
		return outcome(int(w.net.Cut(n[0], verb == "join")))
	case "lose":
		if !w.net.Lose(n[0], n[1]) {
			return outcome(11)
		}
	case "come":
		if !w.net.Come(n[0], n[1]) {
			return outcome(11)
		}
	case "upgrade":
		if n[1] > 3 {
			n[1] = 0 // no version, as that is none
		}
		return outcome(int(w.net.Upgrade(n[0], uint8(n[1]))))
	case "frame":
		f, _ := frame.Encode(frame.Frame{Src: addr.FromInt(uint64(n[2])), Dst: addr.FromInt(uint64(n[3])), Type: 2048, Data: "data"})
		act := func(b *bridge.Bridge) ([]bridge.Sent, api.Errno) { return b.Frame(n[1], f) }
		return outcome(int(w.net.Do(n[0], act)))
	case "show":
		if n[0] >= len(w.states) {
			return outcome(11)
		}
		return report.Bridge(w.net.State(n[0]))
	case "net":
		return report.Net(w.net)
	}
	return outcome(0)
}

// draw of numbers that come one behind the other, none by chance.
type draw uint64

// next number below a bound.
func (d *draw) next(bound int) int {
	*d = *d*6364136223846793005 + 1442695040888963407
	return int(uint64(*d>>33) % uint64(bound))
}

// line of a verb and numbers.
func line(verb string, n ...int) string {
	for _, k := range n {
		verb += " " + strconv.Itoa(k)
	}
	return verb
}

// odd number instead of another one, once in so many.
func (d *draw) odd(once, n int) int {
	if d.next(once) > 0 {
		return n
	}
	return []int{0, 1, 2, 3, 7, 8, 9, 16, 17, 23, 24, 25, 255, 256, 257, 259, 1000, 1001, 65535, 65536, 200000000, 200000001, 999999999}[d.next(23)]
}

// laid: lines that note bridges, and cables between ports that are free, and some others.
func (d *draw) laid() []string {
	var l []string
	var free [][2]int
	once := []int{30, 1 << 30}[d.next(8)/2%2] // in some nets all is as it should be
	for i := range 1 + d.next(6) {
		size := 1 + d.next(5)
		l = append(l, line("bridge", d.odd(once, 10*d.next(9)+i), d.odd(once, d.next(2)), d.odd(once, size)))
		for p := range size {
			free = slices.Insert(free, d.next(len(free)+1), [2]int{i, p + 1})
		}
	}
	for ; len(free) > 1; free = free[2:] {
		if a, b := free[0], free[1]; a[0] != b[0] && d.next(8) > 0 {
			l = append(l, line("cable", d.odd(once, a[0]), d.odd(once, a[1]), d.odd(once, b[0]), d.odd(once, b[1])))
		}
	}
	for range d.next(6) {
		l = append(l, line("cost", d.odd(once, d.next(6)), d.odd(once, 1+d.next(5)), d.odd(once, 1+d.next(4))))
	}
	if d.next(20) == 0 {
		l = append(l, l[0])
	}
	return append(l, "start", "net")
}

// deaf net: lines by which nothing is heard for some ticks.
func deaf() []string {
	var l []string
	for range 5 {
		for c := range 8 {
			for range 3 {
				l = append(l, line("lose", c, 0), line("lose", c, 1))
			}
		}
		l = append(l, "tick 1")
	}
	return l
}

// step: lines that ask for something, most often of what there is.
func (d *draw) step() []string {
	bridge, cable, port, end := d.odd(40, d.next(4)), d.odd(40, d.next(5)), d.odd(40, 1+d.next(4)), d.odd(40, d.next(2))
	switch d.next(30) {
	case 0, 1, 2, 3:
		return []string{line("tick", d.odd(9, d.next(12)))}
	case 4, 5, 6, 7:
		return []string{line("flow", d.odd(40, d.next(30))%100000)}
	case 8, 9, 10, 11:
		return []string{line([]string{"cut", "join"}[d.next(2)], cable)}
	case 12, 13:
		return []string{line("upgrade", bridge, d.odd(9, 1+d.next(3)))}
	case 14, 15, 16:
		return []string{line("lose", cable, end)}
	case 17, 18, 19:
		return []string{line("come", cable, end)}
	case 20, 21, 22, 23, 24:
		return []string{line("frame", bridge, port, d.odd(40, d.next(90)), d.odd(40, d.next(9)))}
	case 25, 26:
		return []string{line("show", bridge)}
	case 27:
		return deaf()
	}
	return []string{d.spoilt()}
}

// spoilt line: of another time, of too many words, or with what is no number.
func (d *draw) spoilt() string {
	l := []string{line("bridge", 1, 0, 2), line("cable", 0, 1, 1, 1), line("cost", 0, 1, 1), "start", line("tick", 1), line("frame", 0, 1, 2, 3), line("lose", 0, 0), "net"}
	s := l[d.next(len(l))]
	switch d.next(4) {
	case 0:
		return s + " 1"
	case 1:
		return strings.Replace(s, "1", "01", 1)
	case 2:
		return s[1:]
	}
	return s
}

// P30.1: long rows of lines; a script is held against the chapter's plain words, line by line.
func TestWords(t *testing.T) {
	met := map[string]int{}
	for seed := range 300 {
		d := draw(seed)
		s, w := script.New(), &words{}
		lines := d.laid()
		for range 60 {
			lines = append(lines, append(d.step(), "net")...)
		}
		for _, l := range lines {
			got, want := s.Do(l), w.say(l)
			if !slices.Equal(got, want) {
				t.Fatalf("seed %d: %q: is %q, want %q", seed, l, got, want)
			}
			met[got[len(got)-1]]++
		}
	}
	for _, a := range []string{"ok", "ok 0", "ok 9", "error 6", "error 8", "error 10", "error 11", "error 12", "error 14", "error 17", "error 18", "looping yes", "looping no"} {
		if met[a] < 5 {
			t.Errorf("only %d times %s", met[a], a)
		}
	}
}

// P30.1: the age at which a bridge believes what it hears no more, as the root goes of a ring of eight: as the words say.
func TestWordsOfRing(t *testing.T) {
	for root := range 8 {
		s, w := script.New(), &words{}
		var lines []string
		for i := range 8 {
			lines = append(lines, line("bridge", 5+(i+8-root)%8, 0, 3))
		}
		for i := range 8 {
			lines = append(lines, line("cable", i, 1, (i+1)%8, 2))
		}
		lines = append(lines, "start", "tick 20", "net", line("cut", root), line("cut", (root+7)%8))
		for range 40 {
			lines = append(lines, "flow 7", "net", "tick 1", "net")
		}
		for _, l := range lines {
			if got, want := s.Do(l), w.say(l); !slices.Equal(got, want) {
				t.Fatalf("root %d: %q: is %q, want %q", root, l, got, want)
			}
		}
	}
}
