package lex

import (
	"strconv"
	"strings"
)

// The halves with which UTF-16 writes great characters: an escape may say one, though none is a character.
const (
	firstHalf = 55296
	lastHalf  = 57343
	halfSize  = 3
)

func isHalf(n int) bool { return n >= firstHalf && n <= lastHalf }

func bytesOfHalf(n int) string {
	return string([]byte{byte(224 + n/4096), byte(128 + n/64%64), byte(128 + n%64)})
}

// halfOf is the half that these bytes begin with.
func halfOf(s string) (int, bool) {
	if len(s) < halfSize {
		return 0, false
	}
	n := (int(s[0])-224)*4096 + (int(s[1])-128)*64 + int(s[2]) - 128
	return n, isHalf(n) && bytesOfHalf(n) == s[:halfSize]
}

// Quote is a text as a string.
func Quote(s string) string {
	var b strings.Builder
	b.WriteByte('"')
	for at := 0; at < len(s); {
		piece, size := quoted(s[at:])
		b.WriteString(piece)
		at += size
	}
	b.WriteByte('"')
	return b.String()
}

// quoted is what stands in a string for the first of these bytes, and how many they are.
func quoted(s string) (string, int) {
	if n, ok := halfOf(s); ok {
		return escaped(n), halfSize
	}
	switch c := s[0]; {
	case c == '"' || c == '\\':
		return `\` + s[:1], 1
	case c < 32 || c == 127:
		return escaped(int(c)), 1
	}
	return s[:1], 1
}

func escaped(n int) string {
	row := strconv.FormatInt(int64(n), 16)
	return `\u` + "0000"[len(row):] + row
}
