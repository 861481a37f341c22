// Package probe helps the tests of the layers to see whether a call leaves alone what it is handed, and answers new memory.
package probe

import (
	"slices"
)

// spare is how much room Roomy leaves behind a list.
const spare = 4

// Roomy is a list like l with spare room behind it, filled with junk; what is told with it says whether list and room are still as they were.
func Roomy[T comparable](l []T, junk T) ([]T, func() bool) {
	whole := slices.Clone(l)
	for range spare {
		whole = append(whole, junk)
	}
	before := slices.Clone(whole)
	return whole[:len(l)], func() bool { return slices.Equal(whole, before) }
}

// Shares says whether a and b have memory in common, their spare room counted.
func Shares[T any](a, b []T) bool {
	return within(a, b) || within(b, a)
}

// within says whether b begins in a's memory.
func within[T any](a, b []T) bool {
	if cap(b) == 0 {
		return false
	}
	first := &b[:1][0]
	whole := a[:cap(a)]
	for i := range whole {
		if &whole[i] == first {
			return true
		}
	}
	return false
}
