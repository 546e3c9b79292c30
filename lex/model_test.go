package lex_test

import (
	"fmt"
	"regexp"
	"strconv"
	"strings"
	"unicode/utf8"

	"rhizome/api"
)

// The model says the chapter's words anew: with patterns over a document in which each byte that begins no character is a byte 1, and without the layers below.

const modelSource = `\t\n\r\x20-\x{FFFF}`

var (
	modelBlank    = regexp.MustCompile(`^[\x{FEFF}\t\n\r ,]`)
	modelComment  = regexp.MustCompile(`^#[\t\x20-\x{FFFF}]*`)
	modelLineEnd  = regexp.MustCompile(`^(?:[\n\r]|$)`)
	modelName     = regexp.MustCompile(`^[_A-Za-z][_0-9A-Za-z]*`)
	modelPunct    = regexp.MustCompile(`^(?:[!$&():=@\[\]{|}]|\.\.\.)`)
	modelNumber   = regexp.MustCompile(`^-?(?:0|[1-9][0-9]*)(?:\.[0-9]+)?(?:[eE][+-]?[0-9]+)?`)
	modelBehind   = regexp.MustCompile(`^[0-9._A-Za-z]`)
	modelFloat    = regexp.MustCompile(`[.eE]`)
	modelString   = regexp.MustCompile(`^"(?:[\t\x20\x21\x23-\x5b\x5d-\x{FFFF}]|\\["\\/bfnrt]|\\u[0-9A-Fa-f]{4})*"`)
	modelEscape   = regexp.MustCompile(`\\(?:u....|.)`)
	modelSources  = regexp.MustCompile(`^[` + modelSource + modelHidden + `]*$`)
	modelLines    = regexp.MustCompile(`\r\n|\r|\n`)
	modelIndent   = regexp.MustCompile(`^[\t ]*`)
	modelReplacer = strings.NewReplacer(modelPairs()...)
)

// modelHidden stands for the four bytes of an escape in a block string.
const modelHidden = "\U0010FFFE"

// modelClean has a byte 1 for each byte that begins no character, so that places stay what they are.
func modelClean(s string) string {
	b := []byte(s)
	for at := 0; at < len(s); {
		r, size := utf8.DecodeRuneInString(s[at:])
		if r == utf8.RuneError && size == 1 {
			b[at] = 1
		}
		at += size
	}
	return string(b)
}

func modelTokens(s string) ([]api.Token, int, api.Errno) {
	if len(s) > 16384 {
		return nil, 0, 54
	}
	s = modelClean(s)
	var l []api.Token
	for at := 0; ; {
		next, wrong := modelIgnored(s, at)
		if wrong {
			return nil, next, 50
		}
		if next == len(s) {
			return l, 0, 0
		}
		if len(l) == 2048 {
			return nil, next, 53
		}
		t, e := modelToken(s[next:])
		if e != 0 {
			return nil, next, e
		}
		t.At, t.End = next, next+t.End
		l, at = append(l, t), t.End
	}
}

// modelIgnored is where what is ignored ends; true, if that is within a comment.
func modelIgnored(s string, at int) (int, bool) {
	for {
		comment := modelComment.FindString(s[at:])
		at += len(comment)
		if comment != "" && !modelLineEnd.MatchString(s[at:]) {
			return at, true
		}
		blank := modelBlank.FindString(s[at:])
		at += len(blank)
		if comment+blank == "" {
			return at, false
		}
	}
}

// modelToken is the token with which s begins, as if it stood at 0.
func modelToken(s string) (api.Token, api.Errno) {
	if strings.HasPrefix(s, `"""`) {
		return modelBlockToken(s)
	}
	if s[0] == '"' {
		row := modelString.FindString(s)
		if row == "" {
			return api.Token{}, 52
		}
		return api.Token{Kind: 4, Text: modelSays(row[1 : len(row)-1]), End: len(row)}, 0
	}
	if strings.Contains("-0123456789", s[:1]) {
		row := modelNumber.FindString(s)
		if row == "" || modelBehind.MatchString(s[len(row):]) {
			return api.Token{}, 51
		}
		if modelFloat.MatchString(row) {
			return api.Token{Kind: 3, Text: row, End: len(row)}, 0
		}
		return api.Token{Kind: 2, Text: row, End: len(row)}, 0
	}
	if row := modelName.FindString(s); row != "" {
		return api.Token{Kind: 1, Text: row, End: len(row)}, 0
	}
	if row := modelPunct.FindString(s); row != "" {
		return api.Token{Kind: 0, Text: row, End: len(row)}, 0
	}
	return api.Token{}, 50
}

func modelBlockToken(s string) (api.Token, api.Errno) {
	within, _, ok := strings.Cut(strings.ReplaceAll(s[3:], `\"""`, modelHidden), `"""`)
	if !ok || !modelSources.MatchString(within) {
		return api.Token{}, 52
	}
	return api.Token{Kind: 4, Text: modelBlock(strings.ReplaceAll(within, modelHidden, `"""`)), End: len(within) + 6}, 0
}

func modelSays(s string) string {
	return modelEscape.ReplaceAllStringFunc(s, func(escape string) string {
		if escape[1] == 'u' {
			n, _ := strconv.ParseInt(escape[2:], 16, 32)
			return modelSpell(int(n))
		}
		return map[byte]string{'"': "\x22", '\\': "\x5c", '/': "\x2f", 'b': "\x08", 'f': "\x0c", 'n': "\x0a", 'r': "\x0d", 't': "\x09"}[escape[1]]
	})
}

// modelSpell is the bytes of a number of at most 65535.
func modelSpell(n int) string {
	if n < 55296 || n > 57343 {
		return string(rune(n))
	}
	return string([]byte{byte(224 + n/4096), byte(128 + n/64%64), byte(128 + n%64)})
}

func modelBlock(raw string) string {
	l := modelLines.Split(raw, -1)
	common := len(raw) + 1
	for i, line := range l {
		n := len(modelIndent.FindString(line))
		if i > 0 && n < len(line) && n < common {
			common = n
		}
	}
	if common > len(raw) {
		common = 0
	}
	first, last := len(l), -1
	for i, line := range l {
		blank := modelIndent.FindString(line) == line
		if !blank {
			first, last = min(first, i), i
		}
		switch {
		case i > 0 && len(line) < common:
			l[i] = ""
		case i > 0:
			l[i] = line[common:]
		}
	}
	if last < 0 {
		return ""
	}
	return strings.Join(l[first:last+1], "\n")
}

// modelPairs are what stands in a string for what: each number's bytes by themselves.
func modelPairs() []string {
	l := []string{`"`, `\"`, `\`, `\\`}
	for n := range 32 {
		l = append(l, string(rune(n)), fmt.Sprintf(`\u%04x`, n))
	}
	l = append(l, "\x7f", `\u007f`)
	for n := 55296; n <= 57343; n++ {
		l = append(l, modelSpell(n), fmt.Sprintf(`\u%04x`, n))
	}
	return l
}

func modelQuote(s string) string { return `"` + modelReplacer.Replace(s) + `"` }
