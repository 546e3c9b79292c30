// Package runes is layer 1: characters as bytes: see shared/doc/01-runes.md.
package runes

import (
	"strings"
	"unicode/utf8"

	"rhizome/api"
)

// none stands for the character of a step that is none.
const none = -1

// step is a character's bytes, or one byte with which no character begins.
type step struct {
	code       int
	begin, end int
}

// eachStep hands the steps of s to see, in their order, as long as it answers true.
func eachStep(s string, see func(step) bool) {
	for begin, r := range s {
		x := step{int(r), begin, begin + utf8.RuneLen(r)}
		// A range tells a byte with which no character begins as U+FFFD, but that is a character, too.
		if r == utf8.RuneError && !strings.HasPrefix(s[begin:], string(utf8.RuneError)) {
			x = step{none, begin, begin + 1}
		}
		if !see(x) {
			return
		}
	}
}

// Rune is the character that begins at a place, and how many bytes it has.
func Rune(s string, at int) (int, int) {
	if at < 0 || at >= len(s) {
		return 0, 0
	}
	code, size := 0, 0
	eachStep(s[at:], func(x step) bool {
		if x.code != none {
			code, size = x.code, x.end
		}
		return false
	})
	return code, size
}

// Put is a character's bytes.
func Put(code int) (string, api.Errno) {
	if !isCharacter(code) {
		return "", api.ErrRunesText
	}
	return string(rune(code)), api.OK
}

// isCharacter holds the number's bounds first: a rune has fewer bits than an int.
func isCharacter(code int) bool {
	return code >= 0 && code <= utf8.MaxRune && utf8.ValidRune(rune(code))
}

// Valid tells whether bytes are a text.
func Valid(s string) bool {
	ok := true
	eachStep(s, func(x step) bool {
		ok = x.code != none
		return ok
	})
	return ok
}

// Points are a text's characters.
func Points(s string) ([]int, bool) {
	if !Valid(s) {
		return nil, false
	}
	var codes []int
	eachStep(s, func(x step) bool {
		codes = append(codes, x.code)
		return true
	})
	return codes, true
}

// Source tells whether a text has source characters alone; else the place of the first other byte.
func Source(s string) (int, api.Errno) {
	at, e := 0, api.OK
	eachStep(s, func(x step) bool {
		if isSource(x.code) {
			return true
		}
		at, e = x.begin, api.ErrRunesText
		return false
	})
	return at, e
}

func isSource(code int) bool {
	switch code {
	case '\t', '\n', '\r':
		return true
	}
	return code >= 32 && code <= 65535
}

// Place is the line and the column of a place.
func Place(s string, at int) (int, int) {
	at = min(max(at, 0), len(s))
	line, column := 1, 1
	eachStep(s, func(x step) bool {
		if x.end > at {
			return false
		}
		column++
		if endsLine(s, x) {
			line, column = line+1, 1
		}
		return true
	})
	return line, column
}

// endsLine tells whether a line of s ends behind a step. Every 10 ends one: with the 13 ahead of it, or alone.
func endsLine(s string, x step) bool {
	if x.code == '\r' {
		return x.end == len(s) || s[x.end] != '\n'
	}
	return x.code == '\n'
}
