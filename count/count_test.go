package count_test

import (
	"math"
	"math/big"
	"strings"
	"testing"

	"girder/count"
)

const most = math.MaxUint32

// distinct counts: none is as another one.
func distinct() count.Counts {
	var c count.Counts
	for what := range c {
		c[what] = uint32(1000 + 7*what)
	}
	return c
}

// P13.1: the places that the chapter names.
func TestPlaces(t *testing.T) {
	for want, got := range []int{
		count.Frames, count.Malformed, count.Held, count.Refused, count.NoVlan, count.NoMember, count.Closed,
		count.Sent, count.Learnt, count.Evicted, count.Aged, count.Heard, count.Spoilt, count.Told, count.Size,
	} {
		if got != want {
			t.Errorf("the place %d is %d", want, got)
		}
	}
	var c count.Counts
	if len(c) != 14 || c != (count.Counts{}) {
		t.Errorf("counts that no call made are %v", c)
	}
}

// P13.1: each count alone is more, all others stay.
func TestAdd(t *testing.T) {
	for what := range count.Size {
		for _, n := range []int{0, 1, 2, 3, 255, 256, 65536, 1 << 31} {
			c, want := distinct(), distinct()
			want[what] += uint32(n)
			if c.Add(what, n); c != want {
				t.Errorf("Add(%d, %d): %v, want %v", what, n, c, want)
			}
		}
	}
}

// P13.1: what was added before counts.
func TestAddAgain(t *testing.T) {
	var c count.Counts
	for what := range count.Size {
		for n := range 5 {
			c.Add(what, n)
			c.Add(what, what)
		}
	}
	for what, n := range c {
		if n != uint32(10+5*what) {
			t.Errorf("the count %d is %d, want %d", what, n, 10+5*what)
		}
	}
}

// P13.1: up to the greatest number, and no further.
func TestAddAtMost(t *testing.T) {
	for _, c := range []struct {
		was  uint32
		n    int
		want uint32
	}{
		{0, most - 1, most - 1},
		{0, most, most},
		{0, most + 1, most},
		{0, most + 2, most},
		{1, most - 2, most - 1},
		{1, most - 1, most},
		{1, most, most},
		{1, most + 1, most},
		{1 << 31, 1<<31 - 2, most - 1},
		{1 << 31, 1<<31 - 1, most},
		{1 << 31, 1 << 31, most},
		{1 << 31, 1<<31 + 1, most},
		{most - 1, 0, most - 1},
		{most - 1, 1, most},
		{most - 1, 2, most},
		{most, 0, most},
		{most, 1, most},
		{most, most, most},
		{0, 1 << 33, most},
		{0, 1<<33 + 5, most},
		{5, 1 << 40, most},
		{0, 1 << 62, most},
		{0, math.MaxInt, most},
		{1, math.MaxInt, most},
		{7, math.MaxInt - 6, most},
		{most, math.MaxInt, most},
		{most, math.MaxInt - most + 1, most},
	} {
		for what := range count.Size {
			got, want := distinct(), distinct()
			got[what], want[what] = c.was, c.want
			if got.Add(what, c.n); got != want {
				t.Errorf("Add(%d, %d) to %d: %v, want %v", what, c.n, c.was, got, want)
			}
		}
	}
}

// P13.1: there are no other counts.
func TestAddToNone(t *testing.T) {
	for _, what := range []int{-1, 14, 15, -2, 28, 256, 1 << 32, 1<<32 + 1, math.MinInt, math.MinInt + 1, math.MaxInt} {
		for _, n := range []int{-1, 0, 1, 5, math.MaxInt} {
			c := distinct()
			if c.Add(what, n); c != distinct() {
				t.Errorf("Add(%d, %d): %v", what, n, c)
			}
		}
	}
}

// P13.1: no count is ever less.
func TestAddBelowZero(t *testing.T) {
	for what := -1; what <= count.Size; what++ {
		for _, n := range []int{-1, -2, -1000, -1 << 31, -1 << 32, -1<<32 + 1, math.MinInt, math.MinInt + 1} {
			c := distinct()
			if c.Add(what, n); c != distinct() {
				t.Errorf("Add(%d, %d): %v", what, n, c)
			}
		}
	}
}

// P13.1: of nil nothing becomes more, and nothing panics.
func TestAddOfNil(t *testing.T) {
	var c *count.Counts
	for what := -1; what <= count.Size; what++ {
		for _, n := range []int{-1, 0, 1, math.MinInt, math.MaxInt} {
			c.Add(what, n)
		}
	}
	if c != nil {
		t.Error("nil is", c)
	}
}

// P13.1: each pair of counts, also such as are at their greatest together.
func TestPlus(t *testing.T) {
	edges := []uint32{0, 1, 2, 3, 255, 256, 65535, 65536, 1<<31 - 1, 1 << 31, 1<<31 + 1, most - 3, most - 2, most - 1, most}
	for _, n := range edges {
		for _, m := range edges {
			want := uint32(min(uint64(n)+uint64(m), most))
			for what := range count.Size {
				c, o, sum := distinct(), distinct(), distinct()
				for i := range sum {
					sum[i] *= 2
				}
				c[what], o[what], sum[what] = n, m, want
				pluses(t, c, o, sum)
			}
		}
	}
}

// pluses counts, which stay as they are.
func pluses(t *testing.T, c, o, want count.Counts) {
	t.Helper()
	c1, o1 := c, o
	if got := c.Plus(o); got != want {
		t.Errorf("%v Plus %v = %v, want %v", c, o, got, want)
	}
	if c != c1 || o != o1 {
		t.Errorf("Plus changed %v to %v, or %v to %v", c1, c, o1, o)
	}
}

// P13.1: a count goes with the one at its own place alone; none at its greatest spoils another one.
func TestPlusByPlace(t *testing.T) {
	var rising, falling, want count.Counts
	for what := range want {
		rising[what], falling[what] = uint32(what), uint32(100*(count.Size-what))
		want[what] = uint32(1400 - 99*what)
	}
	pluses(t, rising, falling, want)
	pluses(t, falling, rising, want)
	pluses(t, rising, count.Counts{}, rising)
	pluses(t, count.Counts{}, rising, rising)
	var all count.Counts
	for what := range all {
		all[what] = most
	}
	pluses(t, all, rising, all)
	pluses(t, rising, all, all)
	pluses(t, all, all, all)
}

// P13.1, and the example.
func TestShow(t *testing.T) {
	var c count.Counts
	shows(t, c, "0 0 0 0 0 0 0 0 0 0 0 0 0 0")
	c.Add(count.Sent, 3)
	shows(t, c, "0 0 0 0 0 0 0 3 0 0 0 0 0 0")
	c.Add(count.Frames, 10)
	c.Add(count.Told, most+5)
	shows(t, c, "10 0 0 0 0 0 0 3 0 0 0 0 0 4294967295")
	shows(t, count.Counts{0, 1, 2, 3, 4, 5, 6, 7, 8, 9, 10, 11, 12, 13}, "0 1 2 3 4 5 6 7 8 9 10 11 12 13")
	shows(t, count.Counts{9, 10, 99, 100, 1 << 31, 1<<31 - 1, most, most - 1}, "9 10 99 100 2147483648 2147483647 4294967295 4294967294 0 0 0 0 0 0")
}

// shows counts as that text.
func shows(t *testing.T, c count.Counts, want string) {
	t.Helper()
	if got := c.Show(); got != want {
		t.Errorf("Show tells %q, want %q", got, want)
	}
}

// P13.1: each count stands at its place, in its shortest digits, whatever it is.
func TestShowOfEach(t *testing.T) {
	for what := range count.Size {
		for bit := range 33 {
			n := uint32(uint64(1)<<bit - 1)
			var c count.Counts
			c[what] = n
			words := strings.Split(strings.Repeat("0 ", count.Size-1)+"0", " ")
			words[what] = new(big.Int).SetUint64(uint64(n)).String()
			shows(t, c, strings.Join(words, " "))
		}
	}
}
