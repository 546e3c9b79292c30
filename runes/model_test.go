package runes_test

import (
	"math"
	"slices"
)

// The chapter's words, taken one by one and without the language's own UTF-8, to hold the package against.

// edgeCodes are the first and last characters of each length, and those beside the numbers that are none.
var edgeCodes = []int{0, 1, 9, 10, 13, 31, 32, 127, 128, 233, 2047, 2048, 8364, 55295, 57344, 65533, 65534, 65535, 65536, 1114110, 1114111}

// wrongCodes are numbers that are no characters.
var wrongCodes = []int{-1, -128, 55296, 55297, 56320, 57342, 57343, 1114112, 1 << 31, 1 << 32, 1<<32 + 97, 1 << 40, -1 << 32, math.MaxInt, math.MinInt}

// edgeBytes are bytes around every bound at which what may follow changes.
var edgeBytes = []byte{0, 10, 13, 127, 128, 143, 144, 159, 160, 191, 192, 193, 194, 223, 224, 225, 236, 237, 238, 239, 240, 241, 243, 244, 245, 255}

func modelCharacter(n int) bool {
	return n >= 0 && n <= 1114111 && !(n >= 55296 && n <= 57343)
}

func modelBytes(n int) string {
	switch {
	case n < 128:
		return string([]byte{byte(n)})
	case n < 2048:
		return string([]byte{byte(192 + n/64), byte(128 + n%64)})
	case n < 65536:
		return string([]byte{byte(224 + n/4096), byte(128 + n/64%64), byte(128 + n%64)})
	}
	return string([]byte{byte(240 + n/262144), byte(128 + n/4096%64), byte(128 + n/64%64), byte(128 + n%64)})
}

// modelRune guesses, for each length, the one number that the bytes could be of, and holds its bytes against them.
func modelRune(s string, at int) (int, int) {
	if at < 0 || at >= len(s) {
		return 0, 0
	}
	for size, lead := range []int{0, 192, 224, 240} {
		if at+size >= len(s) {
			break
		}
		n := int(s[at]) - lead
		for _, c := range []byte(s[at+1 : at+size+1]) {
			n = n*64 + int(c) - 128
		}
		if modelCharacter(n) && modelBytes(n) == s[at:at+size+1] {
			return n, size + 1
		}
	}
	return 0, 0
}

// modelStep is where the step ends that begins at a place.
func modelStep(s string, at int) int {
	if _, size := modelRune(s, at); size > 0 {
		return at + size
	}
	return at + 1
}

func modelPoints(s string) ([]int, bool) {
	var l []int
	for at := 0; at < len(s); {
		n, size := modelRune(s, at)
		if size == 0 {
			return nil, false
		}
		l, at = append(l, n), at+size
	}
	return l, true
}

func modelSource(s string) (int, bool) {
	for at := 0; at < len(s); {
		n, size := modelRune(s, at)
		if size == 0 || n != 9 && n != 10 && n != 13 && (n < 32 || n > 65535) {
			return at, false
		}
		at += size
	}
	return 0, true
}

// modelEnds are the places at which lines end.
func modelEnds(s string) []int {
	var l []int
	for i := range len(s) {
		switch {
		case s[i] == 13 && i+1 < len(s) && s[i+1] == 10:
			l = append(l, i+2)
		case s[i] == 13:
			l = append(l, i+1)
		case s[i] == 10 && (i == 0 || s[i-1] != 13):
			l = append(l, i+1)
		}
	}
	return l
}

func modelPlace(s string, at int) (int, int) {
	at = max(0, min(at, len(s)))
	line, begin := 1, 0
	for _, end := range modelEnds(s) {
		if end <= at {
			line, begin = line+1, end
		}
	}
	column := 1
	for begin < len(s) {
		begin = modelStep(s, begin)
		if begin <= at {
			column++
		}
	}
	return line, column
}

// rows are all rows of at most so many of these bytes.
func rows(of []byte, most int) []string {
	all, last := []string{""}, []string{""}
	for range most {
		var next []string
		for _, s := range last {
			for _, c := range of {
				next = append(next, s+string([]byte{c}))
			}
		}
		all, last = slices.Concat(all, next), next
	}
	return all
}
