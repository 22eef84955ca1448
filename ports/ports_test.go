package ports_test

import (
	"math"
	"slices"
	"testing"

	"girder/api"
	"girder/ports"
)

// noPorts are numbers that no port has; some of them count to a port's bit, where a shift wraps round.
func noPorts() []int {
	return []int{math.MinInt, -1 << 32, -64, -33, -32, -31, -16, -15, -2, -1, 0, 17, 18, 31, 32, 33, 34, 48, 64, 65, 66, 1 << 16, 1<<16 + 1, 1 << 32, 1<<32 + 1, math.MaxInt}
}

// some sets: each port's alone and all but it, the pairs, bits that are no ports, and those of a short rule.
func some() []ports.Set {
	l := []ports.Set{0, 0xFFFF, 0x10000, 0x80000000, 0xFFFF0000, 0xFFFFFFFF, 0x5555, 0xAAAA, 0x55555555, 0xAAAA8001}
	for i := range 32 {
		l = append(l, 1<<i, ^ports.Set(1<<i), 0xFFFF&^(1<<i), 3<<i)
	}
	s := ports.Set(1)
	for range 60 {
		s = s*1664525 + 1013904223
		l = append(l, s, s&0xFFFF)
	}
	return l
}

// slowHas asks a set's number for a port, as the document says where its bit is.
func slowHas(s ports.Set, p int) bool {
	if p < 1 || p > 16 {
		return false
	}
	n := uint64(s)
	for range p - 1 {
		n /= 2
	}
	return n%2 == 1
}

// slowAll tells a set's ports, rising.
func slowAll(s ports.Set) []int {
	var l []int
	for p := 1; p <= 16; p++ {
		if slowHas(s, p) {
			l = append(l, p)
		}
	}
	return l
}

// P7.1
func TestOf(t *testing.T) {
	cases := []struct {
		l    []int
		want ports.Set
	}{
		{nil, 0},
		{[]int{}, 0},
		{[]int{1}, 1},
		{[]int{2}, 2},
		{[]int{16}, 0x8000},
		{[]int{1, 3}, 5},
		{[]int{3, 1}, 5},
		{[]int{1, 2, 3}, 7},
		{[]int{5, 5, 5}, 0x10},
		{[]int{1, 16, 17, 0}, 0x8001},
		{[]int{-1, 4, 99, 9, math.MinInt, math.MaxInt}, 0x108},
		{[]int{16, 15, 14, 13, 12, 11, 10, 9, 8, 7, 6, 5, 4, 3, 2, 1}, 0xFFFF},
		{noPorts(), 0},
	}
	for _, c := range cases {
		before := slices.Clone(c.l)
		if got := ports.Of(c.l...); got != c.want {
			t.Errorf("Of(%v) = %#x, want %#x", c.l, got, c.want)
		}
		if !slices.Equal(c.l, before) {
			t.Errorf("Of changed %v to %v", before, c.l)
		}
	}
	if got := ports.Of(1, 3).With(2); got != 7 {
		t.Errorf("the example tells %#x", got)
	}
}

// P7.1: each port alone, and each two of them.
func TestOfEveryPair(t *testing.T) {
	for p := 1; p <= 16; p++ {
		for q := 1; q <= 16; q++ {
			s := ports.Of(p, q)
			for r := -40; r <= 70; r++ {
				if got, want := s.Has(r), r == p || r == q; got != want {
					t.Errorf("Of(%d, %d) has %d: %v", p, q, r, got)
				}
			}
		}
	}
}

// P7.1: what Has tells of a set is what its number's bits tell, also where it has bits that are no ports.
func TestHas(t *testing.T) {
	for _, s := range some() {
		for p := -70; p <= 140; p++ {
			if got, want := s.Has(p), slowHas(s, p); got != want {
				t.Errorf("%#x has %d: %v", s, p, got)
			}
		}
		for _, p := range noPorts() {
			if s.Has(p) {
				t.Errorf("%#x has %d", s, p)
			}
		}
	}
}

// P7.1: one port comes or goes, and every other bit stays as it was.
func TestWithAndWithout(t *testing.T) {
	for _, s := range some() {
		for p := 1; p <= 16; p++ {
			had, bit := slowHas(s, p), ports.Set(1)<<(p-1)
			with, without := s, s
			if had {
				without = s - bit
			} else {
				with = s + bit
			}
			if got := s.With(p); got != with {
				t.Errorf("%#x with %d is %#x, want %#x", s, p, got, with)
			}
			if got := s.Without(p); got != without {
				t.Errorf("%#x without %d is %#x, want %#x", s, p, got, without)
			}
		}
	}
}

// P7.1: what is no port changes nothing.
func TestWithNoPort(t *testing.T) {
	for _, s := range some() {
		for _, p := range noPorts() {
			if got := s.With(p); got != s {
				t.Errorf("%#x with %d is %#x", s, p, got)
			}
			if got := s.Without(p); got != s {
				t.Errorf("%#x without %d is %#x", s, p, got)
			}
		}
	}
}

// P7.1
func TestCount(t *testing.T) {
	for _, c := range []struct {
		s    ports.Set
		want int
	}{{0, 0}, {1, 1}, {0x8000, 1}, {7, 3}, {0xFFFF, 16}, {0x10000, 0}, {0x18000, 1}, {0xFFFF0000, 0}, {0xFFFFFFFF, 16}, {0x80000001, 1}} {
		if got := c.s.Count(); got != c.want {
			t.Errorf("%#x counts %d, want %d", c.s, got, c.want)
		}
	}
	for _, s := range some() {
		if got, want := s.Count(), len(slowAll(s)); got != want {
			t.Errorf("%#x counts %d, want %d", s, got, want)
		}
	}
}

// P7.1
func TestWithin(t *testing.T) {
	for _, c := range []struct {
		s, t ports.Set
		want bool
	}{
		{0, 0, true},
		{0, 0xFFFF, true},
		{1, 0, false},
		{1, 1, true},
		{1, 2, false},
		{1, 3, true},
		{3, 1, false},
		{0x8000, 0x8000, true},
		{0x8000, 0x7FFF, false},
		{0xFFFF, 0xFFFF, true},
		{0xFFFF, 0xFFFE, false},
		{0x10000, 0, true},
		{0xFFFF0000, 0, true},
		{0x10001, 1, true},
		{0x10001, 0x10000, false},
		{1, 0xFFFF0001, true},
		{1, 0xFFFF0000, false},
	} {
		if got := c.s.Within(c.t); got != c.want {
			t.Errorf("%#x within %#x: %v", c.s, c.t, got)
		}
	}
	for _, s := range some() {
		for _, o := range some() {
			want := true
			for _, p := range slowAll(s) {
				want = want && slowHas(o, p)
			}
			if got := s.Within(o); got != want {
				t.Errorf("%#x within %#x: %v", s, o, got)
			}
		}
	}
}

// all that a range over a set tells.
func all(s ports.Set) []int {
	var l []int
	for p := range s.All() {
		l = append(l, p)
	}
	return l
}

// P7.1: every set of ports, and bits that are none.
func TestAll(t *testing.T) {
	for n := range 1 << 16 {
		s := ports.Set(n)
		if got, want := all(s), slowAll(s); !slices.Equal(got, want) {
			t.Fatalf("all of %#x are %v, want %v", s, got, want)
		}
	}
	for _, s := range some() {
		if got, want := all(s), slowAll(s); !slices.Equal(got, want) {
			t.Errorf("all of %#x are %v, want %v", s, got, want)
		}
	}
}

// P7.1, and the rule of functions to be ranged over: it may be broken off at each port, and begins anew each time.
func TestAllBrokenOff(t *testing.T) {
	for _, s := range []ports.Set{0xFFFF, 0x8421, 1, 0x8000, 0xFFFFFFFF} {
		f := s.All()
		want := slowAll(s)
		for stop := 1; stop <= len(want); stop++ {
			var got []int
			f(func(p int) bool {
				got = append(got, p)
				return len(got) < stop
			})
			if !slices.Equal(got, want[:stop]) {
				t.Errorf("of %#x, broken off at %d: %v", s, stop, got)
			}
		}
		if got := slices.Collect(f); !slices.Equal(got, want) {
			t.Errorf("of %#x, begun anew: %v", s, got)
		}
	}
}

// P7.1: one range inside another one of the same function; neither tells of the other.
func TestAllTwiceAtOnce(t *testing.T) {
	f := ports.Of(2, 9, 16).All()
	var got []int
	for p := range f {
		for q := range f {
			if q > p {
				break
			}
			got = append(got, 100*p+q)
		}
	}
	if want := []int{202, 902, 909, 1602, 1609, 1616}; !slices.Equal(got, want) {
		t.Errorf("%v, want %v", got, want)
	}
}

// P7.1: the set that is gone through is the one that it was when All was asked for.
func TestAllOfASetThatGrows(t *testing.T) {
	s := ports.Of(1, 5)
	f := s.All()
	s = s.With(3)
	var got []int
	for p := range f {
		s = s.With(p + 1)
		got = append(got, p)
	}
	if !slices.Equal(got, []int{1, 5}) || s != ports.Of(1, 2, 3, 5, 6) {
		t.Errorf("%v, %#x", got, s)
	}
}

// P7.1: MaxPorts is the last port.
func TestLastPort(t *testing.T) {
	if !ports.Of(api.MaxPorts).Has(api.MaxPorts) || ports.Of(api.MaxPorts+1) != 0 {
		t.Error("the last port isn't MaxPorts")
	}
}
