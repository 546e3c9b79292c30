package lex

import (
	"strconv"
	"strings"

	"rhizome/api"
	"rhizome/runes"
)

const blockQuote = `"""`

// text reads a string or a block string, and tells what it says.
func (r *reader) text() string {
	var says string
	if r.take(blockQuote) {
		says = Block(r.raw())
	} else {
		says = r.line()
	}
	// Quotes and escapes are source characters, too, so all of it may be asked at once.
	if _, e := runes.Source(r.s[r.begin:r.at]); e != api.OK {
		r.fail(api.ErrLexText)
	}
	return says
}

// raw reads a block string behind its first quotes, and tells its raw text.
func (r *reader) raw() string {
	var b strings.Builder
	for !r.take(blockQuote) {
		switch {
		case r.take(`\` + blockQuote):
			b.WriteString(blockQuote)
		case r.ends():
			r.fail(api.ErrLexText)
		default:
			b.WriteByte(r.takeByte())
		}
	}
	return b.String()
}

// line reads a string, and tells what it says.
func (r *reader) line() string {
	var b strings.Builder
	r.take(`"`)
	for !r.take(`"`) {
		switch {
		case r.take(`\`):
			b.WriteString(r.escape())
		case r.ends() || r.sees(lineEnds):
			r.fail(api.ErrLexText)
		default:
			b.WriteByte(r.takeByte())
		}
	}
	return b.String()
}

// escape reads what stands behind a stroke, and tells what it says.
func (r *reader) escape() string {
	const signs, said = `"\/bfnrt`, "\"\\/\b\f\n\r\t"
	if r.take("u") {
		return r.numbered()
	}
	if !r.sees(signs) {
		r.fail(api.ErrLexText)
	}
	i := strings.IndexByte(signs, r.takeByte())
	return said[i : i+1]
}

// numbered reads the four digits of an escape, and tells what their number says.
func (r *reader) numbered() string {
	const size = 4
	row := r.s[r.at:min(r.at+size, len(r.s))]
	n, err := strconv.ParseUint(row, 16, 64)
	if len(row) < size || err != nil {
		r.fail(api.ErrLexText)
	}
	r.at += size
	if isHalf(int(n)) {
		return bytesOfHalf(int(n))
	}
	says, _ := runes.Put(int(n))
	return says
}

// Block is what a block string's raw text says.
func Block(raw string) string {
	l := linesOf(raw)
	common := commonIndent(l[1:])
	for i, line := range l[1:] {
		l[i+1] = line[min(common, len(line)):]
	}
	for len(l) > 0 && isBlank(l[0]) {
		l = l[1:]
	}
	for len(l) > 0 && isBlank(l[len(l)-1]) {
		l = l[:len(l)-1]
	}
	return strings.Join(l, "\n")
}

// linesOf are the lines of s: one at least.
func linesOf(s string) []string {
	s = strings.ReplaceAll(s, "\r\n", "\n")
	return strings.Split(strings.ReplaceAll(s, "\r", "\n"), "\n")
}

// commonIndent is the least of the indents of the lines that are not blank.
func commonIndent(l []string) int {
	common, found := 0, false
	for _, line := range l {
		n := indent(line)
		if !isBlank(line) && (!found || n < common) {
			common, found = n, true
		}
	}
	return common
}

func indent(line string) int { return len(line) - len(strings.TrimLeft(line, blanks)) }

func isBlank(line string) bool { return indent(line) == len(line) }
