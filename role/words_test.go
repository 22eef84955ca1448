package role_test

import (
	"math"
	"testing"

	"girder/addr"
	"girder/record"
	"girder/role"
	"girder/vector"
)

// row of numbers by which things are ordered: the first that is unlike tells.
type row [5]uint64

// below another row?
func (r row) below(o row) bool {
	for i := range r {
		if r[i] != o[i] {
			return r[i] < o[i]
		}
	}
	return false
}

// told vector as a row.
func told(v vector.Vector) row {
	return row{uint64(v.Root), uint64(v.Cost), uint64(v.Bridge), uint64(v.Port)}
}

// least way of a bridge, by the chapter's words: its place in the list, or -1.
func least(self addr.ID, l []role.Port) (int, row) {
	at, r := -1, row{}
	for i, p := range l {
		w := told(p.Vector)
		w[1] = min(w[1]+uint64(p.Cost), math.MaxUint32)
		w[4] = uint64(p.ID)
		if p.On && p.Heard && p.Vector.Bridge != self && (at < 0 || w.below(r)) {
			at, r = i, w
		}
	}
	return at, r
}

// words: what a bridge chooses, by the chapter's words.
func words(self addr.ID, l []role.Port) role.Choice {
	c := role.Choice{Root: self}
	if at, r := least(self, l); at >= 0 && r[0] < uint64(self) {
		c.Root, c.Cost, c.Port = addr.ID(r[0]), uint32(r[1]), at+1
	}
	for i, p := range l {
		tells := of(c.Root, c.Cost, self, p.ID)
		what := record.Designated
		if p.Heard && told(p.Vector).below(told(tells)) {
			what = record.Alternate
			if p.Vector.Bridge == self {
				what = record.Backup
			}
		}
		if i+1 == c.Port {
			what = record.Root
		}
		if !p.On {
			what = record.Disabled
		}
		c.Roles, c.Tells = append(c.Roles, what), append(c.Tells, tells)
	}
	return c
}

// numbers that come one behind the other, none by chance.
type numbers uint64

// next number below a bound.
func (n *numbers) next(bound int) int {
	*n = *n*6364136223846793005 + 1442695040888963407
	return int(uint64(*n>>33) % uint64(bound))
}

// port of a few numbers, so that many ports are alike in some of them.
func (n *numbers) port() role.Port {
	costs := [...]uint32{0, 1, 2, 3, math.MaxUint32 - 1, math.MaxUint32}
	v := of(addr.ID(n.next(4)), costs[n.next(6)], addr.ID(n.next(4)), uint16(n.next(3)))
	return role.Port{On: n.next(5) > 0, Heard: n.next(4) > 0, Vector: v, Cost: costs[n.next(6)], ID: uint16(n.next(4))}
}

// P15.1: bridges of any ports choose as the chapter's words say.
func TestWords(t *testing.T) {
	var n numbers
	seen := map[int]int{}
	for range 100000 {
		self := addr.ID(n.next(5))
		var l []role.Port
		for range n.next(6) {
			l = append(l, n.port())
		}
		got, want := role.Choose(self, l), words(self, l)
		if !alike(got, want) {
			t.Fatalf("Choose(%d, %+v)\ntells %+v\nwant  %+v", self, l, got, want)
		}
		for _, r := range got.Roles {
			seen[r]++
		}
	}
	for r := record.Disabled; r <= record.Designated; r++ {
		if seen[r] < 2000 {
			t.Errorf("the role %d was seen %d times", r, seen[r])
		}
	}
}
