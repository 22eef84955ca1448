package list_test

import (
	"slices"
	"testing"

	"girder/api"
	"girder/list"
)

func less(a, b int) bool { return a < b }

// what rises, and what doesn't, at each place.
func TestRises(t *testing.T) {
	for _, c := range []struct {
		l    []int
		want bool
	}{
		{nil, true},
		{[]int{}, true},
		{[]int{5}, true},
		{[]int{1, 2}, true},
		{[]int{2, 2}, false},
		{[]int{2, 1}, false},
		{[]int{1, 2, 3, 4}, true},
		{[]int{2, 1, 3, 4}, false},
		{[]int{1, 3, 2, 4}, false},
		{[]int{1, 2, 4, 3}, false},
		{[]int{1, 1, 2, 3}, false},
		{[]int{1, 2, 3, 3}, false},
	} {
		was := slices.Clone(c.l)
		if got := list.Rises(c.l, less); got != c.want || !slices.Equal(c.l, was) {
			t.Errorf("Rises of %v tells %v, want %v", was, got, c.want)
		}
	}
	if !list.Rises([]string{"bb", "a"}, func(a, b string) bool { return len(a) > len(b) }) {
		t.Error("Rises doesn't ask the function it is handed")
	}
}

// the first fault of several counts, and nothing behind it is looked at.
func TestFault(t *testing.T) {
	for _, c := range []struct {
		l     []api.Errno
		want  api.Errno
		looks int
	}{
		{nil, api.OK, 0},
		{[]api.Errno{api.OK, api.OK}, api.OK, 2},
		{[]api.Errno{api.ErrKind, api.ErrArg}, api.ErrKind, 1},
		{[]api.Errno{api.OK, api.ErrNum, api.OK, api.ErrArg}, api.ErrNum, 2},
		{[]api.Errno{api.OK, api.OK, api.ErrFull}, api.ErrFull, 3},
	} {
		looks := 0
		got := list.Fault(c.l, func(e api.Errno) api.Errno {
			looks++
			return e
		})
		if got != c.want || looks != c.looks {
			t.Errorf("Fault of %v tells %d behind %d looks, want %d behind %d", c.l, got, looks, c.want, c.looks)
		}
	}
}
