// Package sample makes texts and lists for the tests of the other packages; the program itself does not use it.
package sample

import (
	"slices"
	"strings"
)

// Texts calls f with every text that consists of at most n of the pieces.
func Texts(n int, pieces []string, f func(string)) {
	Lists(n, pieces, func(l []string) { f(strings.Join(l, "")) })
}

// Lists calls f with every list that consists of at most n of the pieces.
func Lists[T any](n int, pieces []T, f func([]T)) { extend(nil, n, pieces, f) }

// extend calls f with l and with everything that at most n pieces make of it.
func extend[T any](l []T, n int, pieces []T, f func([]T)) {
	f(l)
	if n <= 0 {
		return
	}
	for _, piece := range pieces {
		// A list of its own each time, as f may keep it.
		extend(append(slices.Clip(l), piece), n-1, pieces, f)
	}
}
