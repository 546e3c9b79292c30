// Package samples makes inputs for the other packages' tests; no layer calls it.
package samples

// Spread is a row of n numbers of all bits, the same in each run, so that a test that fails fails again.
func Spread(n int) []uint64 {
	l := make([]uint64, n)
	x := uint64(88172645463325252)
	for i := range l {
		x ^= x << 13
		x ^= x >> 7
		x ^= x << 17
		l[i] = x * 2685821657736338717
	}
	return l
}
