// Package list looks at lists of any things.
package list

import "girder/api"

// Rises: does each thing of a list stand ahead of the one behind it?
func Rises[E any](l []E, ahead func(a, b E) bool) bool {
	for i := 1; i < len(l); i++ {
		if !ahead(l[i-1], l[i]) {
			return false
		}
	}
	return true
}

// Fault of the first thing of a list that has one.
func Fault[E any](l []E, of func(E) api.Errno) api.Errno {
	for _, e := range l {
		if err := of(e); err != api.OK {
			return err
		}
	}
	return api.OK
}
