package jsons_test

import (
	"fmt"
	"math"
	"math/big"
	"regexp"
	"strconv"
	"strings"
	"unicode/utf16"
	"unicode/utf8"

	"rhizome/api"
)

// The model says the chapter's words anew: with patterns for what is read, rows of UTF-16 for the escapes, amounts of any size, and without the layers below.

// modelStep is a value and how many lists and objects it is within.
type modelStep struct {
	value  api.Json
	within int
}

// modelSteps are a value and those in it, each ahead of those in its List.
func modelSteps(v api.Json) []modelStep {
	var seen []modelStep
	for wait := []modelStep{{v, 0}}; len(wait) > 0; {
		x := wait[len(wait)-1]
		wait = wait[:len(wait)-1]
		seen = append(seen, x)
		for i := len(x.value.List) - 1; i >= 0; i-- {
			wait = append(wait, modelStep{x.value.List[i], x.within + 1})
		}
	}
	return seen
}

func modelCheck(v api.Json) api.Errno {
	for _, x := range modelSteps(v) {
		if e := modelCheckOne(x.value, x.within); e != 0 {
			return e
		}
	}
	return 0
}

func modelCheckOne(v api.Json, within int) api.Errno {
	if (v.Kind == 6 || v.Kind == 7) && within >= 32 {
		return 41
	}
	f := math.Float64frombits(v.Bits)
	bad := []bool{
		v.Kind < 0, v.Kind > 7,
		v.Kind != 3 && v.Int != 0, v.Int > 9007199254740991, v.Int < -9007199254740991,
		v.Kind != 4 && v.Bits != 0, f-f != 0,
		v.Kind != 5 && v.Text != "", !utf8.ValidString(v.Text),
		v.Kind < 6 && len(v.List) > 0, v.Kind < 7 && len(v.Keys) > 0,
		v.Kind == 7 && len(v.Keys) != len(v.List),
	}
	for _, b := range bad {
		if b {
			return 43
		}
	}
	for i, key := range v.Keys {
		if !utf8.ValidString(key) {
			return 43
		}
		for _, ahead := range v.Keys[:i] {
			if ahead == key {
				return 44
			}
		}
	}
	return 0
}

var (
	modelEscaped = regexp.MustCompile("[\\x00-\\x1f\"\\\\]")
	modelNoughts = regexp.MustCompile(`\.?0*e([+-])0*(\d+)$`)
)

func modelQuote(s string) string {
	return `"` + modelEscaped.ReplaceAllStringFunc(s, func(c string) string {
		if c[0] < 32 {
			return fmt.Sprintf(`\u%04x`, c[0])
		}
		return `\` + c
	}) + `"`
}

// modelText is the text of a value that may be.
func modelText(v api.Json) string {
	var items []string
	for i, x := range v.List {
		item := modelText(x)
		if v.Kind == 7 {
			item = modelQuote(v.Keys[i]) + ":" + item
		}
		items = append(items, item)
	}
	row := strings.Join(items, ",")
	number := modelNoughts.ReplaceAllString(fmt.Sprintf("%.16e", math.Float64frombits(v.Bits)), "e$1$2")
	number = strings.Replace(number, "+", "", 1)
	return []string{"null", "false", "true", fmt.Sprint(v.Int), number, modelQuote(v.Text), "[" + row + "]", "{" + row + "}"}[v.Kind]
}

func modelPrint(v api.Json) (string, api.Errno) {
	if e := modelCheck(v); e != 0 {
		return "", e
	}
	s := modelText(v)
	if len(s) > 65536 {
		return "", 42
	}
	return s, 0
}

var (
	modelBlanks  = regexp.MustCompile(`^[\t\n\r ]*`)
	modelString  = regexp.MustCompile(`^"(?:[^"\\\x00-\x1f]|\\["\\/bfnrt]|\\u[0-9a-fA-F]{4})*"`)
	modelPieces  = regexp.MustCompile(`(?s)\\u....|\\.|.`)
	modelRow     = regexp.MustCompile(`^[-0-9][-+.eE0-9]*`)
	modelNumber  = regexp.MustCompile(`^-?(?:0|[1-9][0-9]*)(?:\.[0-9]+)?(?:[eE][-+]?[0-9]+)?$`)
	modelPointed = regexp.MustCompile(`[.eE]|^-0$`)
)

func modelParse(s string) (api.Json, api.Errno) {
	if len(s) > 65536 {
		return api.Json{}, 42
	}
	v, rest, e := modelValue(s, 0)
	if e == 0 && rest != "" {
		e = 40
	}
	if e != 0 {
		return api.Json{}, e
	}
	return v, 0
}

func modelSkip(s string) string { return s[len(modelBlanks.FindString(s)):] }

// modelValue tells the value with which s begins, and what is behind it and its blanks.
func modelValue(s string, within int) (v api.Json, rest string, e api.Errno) {
	s = modelSkip(s)
	for kind, word := range []string{"null", "false", "true"} {
		if strings.HasPrefix(s, word) {
			return api.Json{Kind: kind}, modelSkip(s[len(word):]), 0
		}
	}
	switch {
	case s == "":
		return v, "", 40
	case s[0] == '"':
		v.Kind = 5
		v.Text, rest, e = modelReadString(s)
	case s[0] == '[', s[0] == '{':
		v, rest, e = modelItems(s, within)
	default:
		row := modelRow.FindString(s)
		v, e = modelReadNumber(row)
		rest = s[len(row):]
	}
	return v, modelSkip(rest), e
}

func modelReadNumber(row string) (v api.Json, e api.Errno) {
	if len(row) > 64 {
		return v, 45
	}
	if !modelNumber.MatchString(row) {
		return v, 40
	}
	if n, ok := new(big.Int).SetString(row, 10); ok && !modelPointed.MatchString(row) && n.CmpAbs(big.NewInt(9007199254740991)) <= 0 {
		return api.Json{Kind: 3, Int: int(n.Int64())}, 0
	}
	f, err := strconv.ParseFloat(row, 64)
	if err != nil {
		return v, 45
	}
	return api.Json{Kind: 4, Bits: math.Float64bits(f)}, 0
}

// modelReadString writes what a string says as UTF-16: what is not written so again has a half that is alone.
func modelReadString(s string) (string, string, api.Errno) {
	raw := modelString.FindString(s)
	if raw == "" || !utf8.ValidString(raw) {
		return "", "", 40
	}
	var units []uint16
	for _, piece := range modelPieces.FindAllString(raw[1:len(raw)-1], -1) {
		if strings.HasPrefix(piece, `\u`) {
			n, _ := strconv.ParseUint(piece[2:], 16, 16)
			units = append(units, uint16(n))
			continue
		}
		if piece[0] == '\\' {
			piece = map[byte]string{'"': "\x22", '\\': "\x5c", '/': "\x2f", 'b': "\x08", 'f': "\x0c", 'n': "\x0a", 'r': "\x0d", 't': "\x09"}[piece[1]]
		}
		units = append(units, utf16.Encode([]rune(piece))...)
	}
	said := utf16.Decode(units)
	if again := utf16.Encode(said); fmt.Sprint(again) != fmt.Sprint(units) {
		return "", "", 40
	}
	return string(said), s[len(raw):], 0
}

// modelItems reads a list or an object.
func modelItems(s string, within int) (v api.Json, rest string, e api.Errno) {
	if within >= 32 {
		return v, "", 41
	}
	v.Kind = 6
	end := byte(']')
	if s[0] == '{' {
		v.Kind, end = 7, '}'
	}
	for rest = modelSkip(s[1:]); len(v.List) > 0 || rest == "" || rest[0] != end; {
		if v.Kind == 7 {
			var key string
			key, rest, e = modelReadString(modelSkip(rest))
			for _, k := range v.Keys {
				if e == 0 && k == key {
					e = 44
				}
			}
			rest = modelSkip(rest)
			if e == 0 && !strings.HasPrefix(rest, ":") {
				e = 40
			}
			if e != 0 {
				return v, "", e
			}
			v.Keys = append(v.Keys, key)
			rest = rest[1:]
		}
		var x api.Json
		if x, rest, e = modelValue(rest, within+1); e != 0 {
			return v, "", e
		}
		v.List = append(v.List, x)
		if rest == "" || rest[0] != ',' && rest[0] != end {
			return v, "", 40
		}
		if rest[0] == end {
			break
		}
		rest = rest[1:]
	}
	return v, rest[1:], 0
}

func modelGet(v api.Json, key string) (api.Json, bool) {
	for i, k := range v.Keys {
		if v.Kind == 7 && k == key && i < len(v.List) {
			return v.List[i], true
		}
		if k == key {
			break
		}
	}
	return api.Json{}, false
}
