package link_test

import (
	"math"
	"slices"
	"strconv"
	"strings"
	"testing"

	"girder/link"
)

// noEnds: numbers that no end has.
var noEnds = []int{-1, 2, 3, -2, 255, 256, 1 << 32, 1<<32 + 1, math.MinInt, math.MaxInt}

// sends a text from an end, and is answered that.
func sends(t *testing.T, l *link.Link, from int, data string, want bool) {
	t.Helper()
	if got := l.Send(from, data); got != want {
		t.Fatalf("Send(%d, %q) = %v, want %v", from, data, got, want)
	}
}

// comes: just these texts come from an end, and then nothing.
func comes(t *testing.T, l *link.Link, from int, want ...string) {
	t.Helper()
	for i, w := range want {
		if n := l.Under(from); n != len(want)-i {
			t.Fatalf("Under(%d) = %d, want %d", from, n, len(want)-i)
		}
		if got, ok := l.Come(from); got != w || !ok {
			t.Fatalf("Come(%d) = %q, %v, want %q, true", from, got, ok, w)
		}
	}
	nothing(t, l, from)
}

// nothing is under way from an end.
func nothing(t *testing.T, l *link.Link, from int) {
	t.Helper()
	if n := l.Under(from); n != 0 {
		t.Fatalf("Under(%d) = %d, want 0", from, n)
	}
	if s, ok := l.Come(from); s != "" || ok {
		t.Fatalf("Come(%d) = %q, %v, want nothing, false", from, s, ok)
	}
	if l.Lose(from) {
		t.Fatalf("Lose(%d) of nothing = true", from)
	}
}

// cuts a link, or joins it, and is answered that.
func cuts(t *testing.T, l *link.Link, up, want bool) {
	t.Helper()
	if got := l.Cut(up); got != want || l.Up() != up {
		t.Fatalf("Cut(%v) = %v, want %v; Up tells %v", up, got, want, l.Up())
	}
}

// P26.1
func TestNew(t *testing.T) {
	l, other := link.New(), link.New()
	if l == nil || other == nil || !l.Up() {
		t.Fatalf("New tells %v, %v", l, other)
	}
	nothing(t, l, 0)
	nothing(t, l, 1)
	sends(t, l, 0, "x", true)
	nothing(t, other, 0) // links are each their own
	cuts(t, l, false, true)
	if !other.Up() {
		t.Error("another link is cut")
	}
}

// P26.1, and the example: from an end, not to it; any bytes, none too.
func TestSend(t *testing.T) {
	for from := range 2 {
		for _, data := range []string{"x", "", "\x00", "\xff\x80", "abc", strings.Repeat("y", 1519)} {
			l := link.New()
			sends(t, l, from, data, true)
			nothing(t, l, 1-from)
			comes(t, l, from, data)
		}
	}
}

// P26.1: the first ones first, each end's own.
func TestOrder(t *testing.T) {
	l := link.New()
	for _, s := range []string{"a", "b", "", "b", "c"} {
		sends(t, l, 0, s, true)
		sends(t, l, 1, s+"1", true)
	}
	if s, ok := l.Come(0); s != "a" || !ok {
		t.Errorf("Come = %q, %v", s, ok)
	}
	sends(t, l, 0, "d", true)
	comes(t, l, 0, "b", "", "b", "c", "d")
	comes(t, l, 1, "a1", "b1", "1", "b1", "c1")
	sends(t, l, 0, "e", true)
	comes(t, l, 0, "e")
}

// P26.1: what is lost doesn't come; what is behind it does.
func TestLose(t *testing.T) {
	l := link.New()
	for _, s := range []string{"a", "b", "", "c"} {
		sends(t, l, 0, s, true)
		sends(t, l, 1, s, true)
	}
	if !l.Lose(0) || l.Under(0) != 3 || l.Under(1) != 4 {
		t.Errorf("lost: %d, %d under way", l.Under(0), l.Under(1))
	}
	if s, ok := l.Come(0); s != "b" || !ok {
		t.Errorf("behind the lost one: %q, %v", s, ok)
	}
	if !l.Lose(0) { // an empty text is one, too
		t.Error("no empty text was lost")
	}
	comes(t, l, 0, "c")
	comes(t, l, 1, "a", "b", "", "c")
}

// P26.1: as many as may be from each end, one more, and again one where one came or was lost.
func TestFull(t *testing.T) {
	for from := range 2 {
		l := link.New()
		var all []string
		for i := range 1000 {
			all = append(all, strconv.Itoa(i))
			sends(t, l, from, all[i], true)
		}
		sends(t, l, from, "more", false)
		if l.Under(from) != 1000 || l.Under(1-from) != 0 {
			t.Errorf("%d, %d under way", l.Under(from), l.Under(1-from))
		}
		for range 1000 {
			sends(t, l, 1-from, "other", true)
		}
		sends(t, l, 1-from, "other", false)
		if s, ok := l.Come(from); s != "0" || !ok {
			t.Errorf("Come = %q, %v", s, ok)
		}
		sends(t, l, from, "again", true)
		sends(t, l, from, "more", false)
		if !l.Lose(from) {
			t.Error("nothing was lost")
		}
		sends(t, l, from, "too", true)
		sends(t, l, from, "more", false)
		sends(t, l, 1-from, "other", false)
		comes(t, l, from, append(all[2:], "again", "too")...)
		comes(t, l, 1-from, slices.Repeat([]string{"other"}, 1000)...)
	}
}

// P26.1: where it is cut, nothing is under way from either end, nor is anything sent; joined again it begins with nothing.
func TestCut(t *testing.T) {
	l := link.New()
	for range 3 {
		sends(t, l, 0, "a", true)
		sends(t, l, 0, "b", true)
		sends(t, l, 1, "c", true)
		cuts(t, l, true, false) // it is up already: what is under way stays so
		if l.Under(0) != 2 || l.Under(1) != 1 {
			t.Fatalf("%d, %d under way", l.Under(0), l.Under(1))
		}
		cuts(t, l, false, true)
		for range 2 {
			for from := range 2 {
				nothing(t, l, from)
				sends(t, l, from, "d", false)
				nothing(t, l, from)
			}
			cuts(t, l, false, false)
		}
		cuts(t, l, true, true)
		nothing(t, l, 0)
		nothing(t, l, 1)
		sends(t, l, 1, "e", true)
		comes(t, l, 1, "e")
	}
}

// P26.1: a link that was full is empty where it was cut.
func TestCutFull(t *testing.T) {
	l := link.New()
	for range 1001 {
		l.Send(0, "a")
		l.Send(1, "b")
	}
	cuts(t, l, false, true)
	cuts(t, l, true, true)
	for from := range 2 {
		for range 1000 {
			sends(t, l, from, "c", true)
		}
		sends(t, l, from, "c", false)
	}
}

// P26.1: ends that there aren't.
func TestNoEnd(t *testing.T) {
	for _, up := range []bool{true, false} {
		l := link.New()
		sends(t, l, 0, "a", true)
		sends(t, l, 1, "b", true)
		l.Cut(up)
		for _, from := range noEnds {
			sends(t, l, from, "x", false)
			nothing(t, l, from)
		}
		if up {
			comes(t, l, 0, "a")
			comes(t, l, 1, "b")
		}
	}
}

// P26.1: of nil: false, nothing.
func TestNil(t *testing.T) {
	var l *link.Link
	for _, from := range append(noEnds, 0, 1) {
		sends(t, l, from, "x", false)
		nothing(t, l, from)
	}
	for _, up := range []bool{true, false} {
		if l.Cut(up) || l.Up() {
			t.Errorf("Cut(%v) of nil: Up tells %v", up, l.Up())
		}
	}
}

// words: a link that does what the chapter says, in plain lists.
type words struct {
	up   bool
	list map[int][]string
}

func (w *words) send(from int, data string) bool {
	if from < 0 || from > 1 || !w.up || len(w.list[from]) >= 1000 {
		return false
	}
	w.list[from] = append(w.list[from], data)
	return true
}

func (w *words) come(from int) (string, bool) {
	if len(w.list[from]) == 0 {
		return "", false
	}
	s := w.list[from][0]
	w.list[from] = slices.Clone(w.list[from][1:])
	return s, true
}

func (w *words) cut(up bool) bool {
	was := w.up
	if w.up = up; !up {
		w.list = map[int][]string{}
	}
	return was != up
}

// draw of numbers that come one behind the other, none by chance.
type draw uint64

// next number below a bound.
func (d *draw) next(bound int) int {
	*d = *d*6364136223846793005 + 1442695040888963407
	return int(uint64(*d>>33) % uint64(bound))
}

// P26.1: long rows of calls; a link that is held against the chapter's plain words.
func TestWords(t *testing.T) {
	var d draw
	full := 0
	for round := range 60 {
		l, w := link.New(), &words{true, map[int][]string{}}
		for i := range 6000 {
			from := d.next(2)
			if d.next(20) == 0 {
				from = d.next(5) - 2
			}
			switch n := d.next(10 + round); {
			case n < 4:
				got, ok := l.Come(from)
				if want, there := w.come(from); got != want || ok != there {
					t.Fatalf("Come(%d) = %q, %v, want %q, %v", from, got, ok, want, there)
				}
			case n == 4:
				if _, there := w.come(from); l.Lose(from) != there {
					t.Fatalf("Lose(%d) isn't %v", from, there)
				}
			case n == 5 && d.next(60) == 0:
				up := d.next(3) > 0
				cuts(t, l, up, w.cut(up))
			default:
				s := strconv.Itoa(i)
				sends(t, l, from, s, w.send(from, s))
			}
			if n := l.Under(from); n != len(w.list[from]) || l.Up() != w.up {
				t.Fatalf("Under(%d) = %d, want %d; Up tells %v", from, n, len(w.list[from]), l.Up())
			} else if n == 1000 {
				full++
			}
		}
	}
	if full < 100 {
		t.Errorf("full only %d times", full)
	}
}

// P26.1: texts that are under way stay as they were, however many come and go around them.
func TestNoMix(t *testing.T) {
	l := link.New()
	for i := range 5000 {
		sends(t, l, i%2, strconv.Itoa(i), true)
		if i >= 1500 {
			if s, ok := l.Come(i % 2); s != strconv.Itoa(i-1500) || !ok {
				t.Fatalf("Come = %q, %v, want %d", s, ok, i-1500)
			}
		}
	}
}
