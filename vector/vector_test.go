package vector_test

import (
	"math"
	"testing"

	"girder/addr"
	"girder/vector"
)

// rising: each is better than all behind it, though its later numbers are greater.
func rising() []vector.Vector {
	const most = math.MaxUint64
	return []vector.Vector{
		{},
		{Port: 1},
		{Port: 0x7FFF},
		{Port: 0x8000},
		{Port: math.MaxUint16},
		{Bridge: 1},
		{Bridge: 1, Port: math.MaxUint16},
		{Bridge: 1 << 63, Port: 3},
		{Bridge: most, Port: 1},
		{Cost: 1},
		{Cost: 1, Bridge: most, Port: math.MaxUint16},
		{Cost: 1 << 31},
		{Cost: math.MaxUint32, Bridge: 2, Port: 9},
		{Root: 1},
		{Root: 1, Cost: 4, Bridge: 9, Port: 9},
		{Root: 1, Cost: 5, Bridge: 2, Port: 1},
		{Root: 1, Cost: 5, Bridge: 2, Port: 3},
		{Root: 1, Cost: math.MaxUint32, Bridge: most, Port: math.MaxUint16},
		{Root: addr.MakeID(0, addr.FromInt(1<<48-1))},
		{Root: addr.MakeID(1, addr.FromInt(0))},
		{Root: 1 << 63},
		{Root: most},
		{Root: most, Cost: 7, Bridge: 1, Port: 1},
		{Root: most, Cost: math.MaxUint32, Bridge: most, Port: math.MaxUint16},
	}
}

// P6.1
func TestBetter(t *testing.T) {
	l := rising()
	for i, v := range l {
		for j, w := range l {
			if got := v.Better(w); got != (i < j) {
				t.Errorf("%+v better than %+v: %v", v, w, got)
			}
		}
	}
}

// P6.1: each number alone tells, a step and a whole range apart.
func TestBetterByOne(t *testing.T) {
	middle := vector.Vector{Root: 5, Cost: 5, Bridge: 5, Port: 5}
	for _, change := range []func(v *vector.Vector){
		func(v *vector.Vector) { v.Root = 4 },
		func(v *vector.Vector) { v.Root, v.Cost, v.Bridge, v.Port = 4, 6, 6, 6 },
		func(v *vector.Vector) { v.Cost = 4 },
		func(v *vector.Vector) { v.Cost, v.Bridge, v.Port = 4, 6, 6 },
		func(v *vector.Vector) { v.Bridge = 4 },
		func(v *vector.Vector) { v.Bridge, v.Port = 4, 6 },
		func(v *vector.Vector) { v.Port = 4 },
		func(v *vector.Vector) { v.Port = 0 },
	} {
		v := middle
		change(&v)
		if !v.Better(middle) || middle.Better(v) {
			t.Errorf("%+v should be better than %+v", v, middle)
		}
	}
	if middle.Better(middle) {
		t.Error("a vector is better than itself")
	}
}

// P6.1
func TestPlus(t *testing.T) {
	const most = math.MaxUint32
	cases := []struct{ have, more, want uint32 }{
		{0, 0, 0},
		{0, 1, 1},
		{1, 4, 5},
		{5, 0, 5},
		{200000000, 200000000, 400000000},
		{1 << 31, 1<<31 - 1, most},
		{1 << 31, 1 << 31, most},
		{most - 1, 0, most - 1},
		{most - 1, 1, most},
		{most - 1, 2, most},
		{most - 1, most, most},
		{most, 0, most},
		{most, 1, most},
		{most, most, most},
		{0, most - 1, most - 1},
		{0, most, most},
		{1, most - 1, most},
		{1, most, most},
	}
	for _, c := range cases {
		v := vector.Vector{Root: 1 << 63, Cost: c.have, Bridge: math.MaxUint64, Port: 0x8001}
		want := v
		want.Cost = c.want
		if got := v.Plus(c.more); got != want {
			t.Errorf("%d more than %+v is %+v, want %+v", c.more, v, got, want)
		}
		if v.Cost != c.have {
			t.Errorf("Plus changed %d to %d", c.have, v.Cost)
		}
	}
}

// P6.1
func TestBestOfFew(t *testing.T) {
	if got := vector.Best(); got != -1 {
		t.Errorf("Best of none is %d", got)
	}
	if got := vector.Best([]vector.Vector{}...); got != -1 {
		t.Errorf("Best of an empty list is %d", got)
	}
	for _, v := range rising() {
		if got := vector.Best(v); got != 0 {
			t.Errorf("Best of %+v alone is %d", v, got)
		}
	}
}

// P6.1: of those that are alike the first one.
func TestBestOfAlike(t *testing.T) {
	good, bad := vector.Vector{Root: 1, Port: 1}, vector.Vector{Root: 1, Port: 2}
	worst := vector.Vector{Root: math.MaxUint64, Cost: math.MaxUint32, Bridge: math.MaxUint64, Port: math.MaxUint16}
	cases := []struct {
		l    []vector.Vector
		want int
	}{
		{[]vector.Vector{good, good}, 0},
		{[]vector.Vector{worst, worst, worst}, 0},
		{[]vector.Vector{{}, {}}, 0},
		{[]vector.Vector{bad, good, good}, 1},
		{[]vector.Vector{bad, good, bad, good}, 1},
		{[]vector.Vector{good, bad, good}, 0},
		{[]vector.Vector{bad, bad, worst, good}, 3},
	}
	for _, c := range cases {
		if got := vector.Best(c.l...); got != c.want {
			t.Errorf("Best of %+v is %d, want %d", c.l, got, c.want)
		}
	}
}

// P6.1: each list of up to four of some vectors, with those that are alike, in each order; the list stays as it is.
func TestBestOfEveryOrder(t *testing.T) {
	some := []vector.Vector{{Root: 1, Cost: 9, Bridge: 2}, {Root: 1, Cost: 9, Bridge: 3}, {Root: 2, Cost: 1}, {Root: 1, Cost: 4, Port: 7}}
	for size := 1; size <= 4; size++ {
		for code := range 1 << (2 * size) {
			l := make([]vector.Vector, size, size+1)
			for i := range l {
				l[i] = some[code>>(2*i)%4]
			}
			before := [5]vector.Vector{}
			copy(before[:], l[:size+1])
			if got, want := vector.Best(l...), slowBest(l); got != want {
				t.Errorf("Best of %+v is %d, want %d", l, got, want)
			}
			after := [5]vector.Vector{}
			copy(after[:], l[:size+1])
			if after != before {
				t.Errorf("Best changed %+v to %+v", before, after)
			}
		}
	}
}

// slowBest holds each vector against all others, and takes the first one than which none is better.
func slowBest(l []vector.Vector) int {
	for i, v := range l {
		better := 0
		for _, w := range l {
			if less(w, v) {
				better++
			}
		}
		if better == 0 {
			return i
		}
	}
	return -1
}

func less(v, w vector.Vector) bool {
	a := [4]uint64{uint64(v.Root), uint64(v.Cost), uint64(v.Bridge), uint64(v.Port)}
	b := [4]uint64{uint64(w.Root), uint64(w.Cost), uint64(w.Bridge), uint64(w.Port)}
	for i := range a {
		if a[i] != b[i] {
			return a[i] < b[i]
		}
	}
	return false
}
