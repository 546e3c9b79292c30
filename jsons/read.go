package jsons

import (
	"strconv"
	"strings"

	"rhizome/api"
	"rhizome/floats"
	"rhizome/runes"
)

// firstPlain is the least character that stands in a string without an escape.
const firstPlain = 32

// The halves with which UTF-16 writes the characters from firstPaired on: a high one, then a low one.
const (
	firstHigh   = 0xd800
	firstLow    = 0xdc00
	halves      = 0x400
	firstPaired = 0x10000
)

// reader reads a text from the left, and gives up at the first thing that is wrong.
type reader struct{ rest string }

// take reads a sign, if it stands next.
func (r *reader) take(sign string) bool {
	rest, ok := strings.CutPrefix(r.rest, sign)
	r.rest = rest
	return ok
}

func (r *reader) need(sign string) {
	if !r.take(sign) {
		panic(api.ErrJsonText)
	}
}

// cut reads n bytes.
func (r *reader) cut(n int) string {
	if n > len(r.rest) {
		panic(api.ErrJsonText)
	}
	piece := r.rest[:n]
	r.rest = r.rest[n:]
	return piece
}

// cutRow reads the longest row of these signs.
func (r *reader) cutRow(signs string) string {
	n := 0
	for n < len(r.rest) && strings.IndexByte(signs, r.rest[n]) >= 0 {
		n++
	}
	return r.cut(n)
}

func (r *reader) blanks() { r.cutRow("\t\n\r ") }

// whole reads all that there is as one value.
func (r *reader) whole() api.Json {
	r.blanks()
	v := r.value(0)
	if r.rest != "" {
		panic(api.ErrJsonText)
	}
	return v
}

// value reads a value that is within so many lists and objects, and the blanks behind it.
func (r *reader) value(within int) api.Json {
	v := r.bareValue(within)
	r.blanks()
	return v
}

func (r *reader) bareValue(within int) api.Json {
	if r.rest == "" {
		panic(api.ErrJsonText)
	}
	switch r.rest[0] {
	case 'n':
		return r.word("null", api.JsonNull)
	case 'f':
		return r.word("false", api.JsonFalse)
	case 't':
		return r.word("true", api.JsonTrue)
	case '"':
		return api.Json{Kind: api.JsonText, Text: r.text()}
	case '[':
		return r.list(within)
	case '{':
		return r.object(within)
	case '-', '0', '1', '2', '3', '4', '5', '6', '7', '8', '9':
		return r.number()
	}
	panic(api.ErrJsonText)
}

func (r *reader) word(word string, kind int) api.Json {
	r.need(word)
	return api.Json{Kind: kind}
}

func (r *reader) number() api.Json {
	text := r.cutRow("0123456789.eE+-")
	if len(text) > api.MaxNumber {
		panic(api.ErrJsonNumber)
	}
	bits, e := floats.Parse(text)
	switch e {
	case api.ErrFloatText:
		panic(api.ErrJsonText)
	case api.ErrFloatBig:
		panic(api.ErrJsonNumber)
	}
	// No int is -0.
	if n, err := strconv.Atoi(text); err == nil && isInt(n) && text != "-0" {
		return api.Json{Kind: api.JsonInt, Int: n}
	}
	return api.Json{Kind: api.JsonFloat, Bits: bits}
}

func (r *reader) list(within int) api.Json {
	checkDeep(within)
	v := api.Json{Kind: api.JsonList}
	r.row("[", "]", func() {
		v.List = append(v.List, r.value(within+1))
	})
	return v
}

func (r *reader) object(within int) api.Json {
	checkDeep(within)
	v := api.Json{Kind: api.JsonObject}
	seen := members{}
	r.row("{", "}", func() {
		key := r.text()
		seen.add(key)
		r.blanks()
		r.need(":")
		r.blanks()
		v.Keys = append(v.Keys, key)
		v.List = append(v.List, r.value(within+1))
	})
	return v
}

// row reads what stands from one sign to another: no item, or items with a comma between each two. An item reads the blanks behind it, too.
func (r *reader) row(begin, end string, item func()) {
	r.need(begin)
	r.blanks()
	if r.take(end) {
		return
	}
	item()
	for !r.take(end) {
		r.need(",")
		r.blanks()
		item()
	}
}

func (r *reader) text() string {
	r.need(`"`)
	var text strings.Builder
	for !r.take(`"`) {
		text.WriteString(r.character())
	}
	return text.String()
}

// character reads one of a string, or its escape.
func (r *reader) character() string {
	if r.take(`\`) {
		return r.escape()
	}
	// Where no character begins, and at the end, 0 is told, which is wrong as well.
	code, size := runes.Rune(r.rest, 0)
	if code < firstPlain {
		panic(api.ErrJsonText)
	}
	return r.cut(size)
}

func (r *reader) escape() string {
	const letters, meant = `"\/bfnrt`, "\"\\/\b\f\n\r\t"
	if r.take("u") {
		return r.numbered()
	}
	at := strings.Index(letters, r.cut(1))
	if at < 0 {
		panic(api.ErrJsonText)
	}
	return meant[at : at+1]
}

// numbered reads the character of an escape behind its \u, or of two such that are halves.
func (r *reader) numbered() string {
	code := r.fourDigits()
	if isHalf(code, firstHigh) && r.take(`\u`) {
		low := r.fourDigits()
		if !isHalf(low, firstLow) {
			panic(api.ErrJsonText)
		}
		code = firstPaired + (code-firstHigh)*halves + low - firstLow
	}
	// A half by itself is no character.
	text, e := runes.Put(code)
	if e != api.OK {
		panic(api.ErrJsonText)
	}
	return text
}

func isHalf(code, first int) bool { return code >= first && code < first+halves }

// fourDigits reads a number of four digits of base sixteen.
func (r *reader) fourDigits() int {
	n, err := strconv.ParseUint(r.cut(4), 16, 64)
	if err != nil {
		panic(api.ErrJsonText)
	}
	return int(n)
}
