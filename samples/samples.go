// Package samples makes inputs for the other packages' tests; no layer calls it.
package samples

import "iter"

// Spread is a row of n numbers of all bits, the same in each run, so that a test that fails fails again.
func Spread(n int) []uint64 {
	l := make([]uint64, n)
	x := uint64(88172645463325252)
	for i := range l {
		x ^= x << 13
		x ^= x >> 7
		x ^= x << 17
		l[i] = x * 2685821657736338717
	}
	return l
}

// Rows tells all rows of at most n of the pieces.
func Rows(n int, pieces ...string) iter.Seq[string] {
	return func(yield func(string) bool) {
		var more func(string, int) bool
		more = func(ahead string, left int) bool {
			if !yield(ahead) {
				return false
			}
			for i := 0; i < len(pieces) && left > 0; i++ {
				if !more(ahead+pieces[i], left-1) {
					return false
				}
			}
			return true
		}
		more("", n)
	}
}
