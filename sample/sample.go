// Package sample makes texts for the tests of the other packages; the program itself does not use it.
package sample

// Texts calls f with every text that consists of at most n of the pieces.
func Texts(n int, pieces []string, f func(string)) { extend("", n, pieces, f) }

// extend calls f with s and with everything that at most n pieces make of it.
func extend(s string, n int, pieces []string, f func(string)) {
	f(s)
	if n <= 0 {
		return
	}
	for _, piece := range pieces {
		extend(s+piece, n-1, pieces, f)
	}
}
