package lex

import (
	"strings"

	"rhizome/api"
	"rhizome/runes"
)

const (
	digits      = "0123456789"
	letters     = "abcdefghijklmnopqrstuvwxyzABCDEFGHIJKLMNOPQRSTUVWXYZ_"
	punctuators = "!$&():=@[]{|}"
	blanks      = "\t "
	lineEnds    = "\n\r"
	mark        = "\ufeff"
)

// reader reads s from the left: up to at all is read; begin is where the token begins that is being read.
type reader struct {
	s         string
	begin, at int
}

// fail gives up the token that is being read.
func (r *reader) fail(e api.Errno) { panic(fault{r.begin, e}) }

func (r *reader) ends() bool { return r.at == len(r.s) }

// sees tells whether one of these signs stands next.
func (r *reader) sees(signs string) bool {
	return !r.ends() && strings.IndexByte(signs, r.s[r.at]) >= 0
}

// take reads these bytes, if they stand next.
func (r *reader) take(row string) bool {
	ok := strings.HasPrefix(r.s[r.at:], row)
	if ok {
		r.at += len(row)
	}
	return ok
}

// takeOne reads one of these signs, if one stands next.
func (r *reader) takeOne(signs string) bool {
	ok := r.sees(signs)
	if ok {
		r.at++
	}
	return ok
}

// takeRow reads the longest row of these signs, and tells whether there is one.
func (r *reader) takeRow(signs string) bool {
	begin := r.at
	for r.takeOne(signs) {
	}
	return r.at > begin
}

// takeByte reads the byte that stands next, whichever it is.
func (r *reader) takeByte() byte {
	r.at++
	return r.s[r.at-1]
}

// next goes over what is ignored, and tells whether anything stands behind it.
func (r *reader) next() bool {
	for r.takeRow(blanks+lineEnds+",") || r.take(mark) || r.comment() {
	}
	r.begin = r.at
	return !r.ends()
}

// comment reads a comment, if one stands next, up to its line's end.
func (r *reader) comment() bool {
	begin := r.at
	if !r.take("#") {
		return false
	}
	for !r.ends() && !r.sees(lineEnds) {
		r.takeByte()
	}
	if wrong, e := runes.Source(r.s[begin:r.at]); e != api.OK {
		panic(fault{begin + wrong, api.ErrLexChar})
	}
	return true
}

// token reads the token that stands next.
func (r *reader) token() api.Token {
	switch {
	case r.takeOne(punctuators) || r.take("..."):
		return r.written(api.TokPunct)
	case r.takeOne(letters):
		r.takeRow(letters + digits)
		return r.written(api.TokName)
	case r.sees("-" + digits):
		return r.written(r.number())
	case r.sees(`"`):
		says := r.text()
		return api.Token{Kind: api.TokText, Text: says, At: r.begin, End: r.at}
	}
	panic(fault{r.begin, api.ErrLexChar})
}

// written is a token of what is read of it, as it stands there.
func (r *reader) written(kind int) api.Token {
	return api.Token{Kind: kind, Text: r.s[r.begin:r.at], At: r.begin, End: r.at}
}

// number reads a number, and tells its kind.
func (r *reader) number() int {
	kind := api.TokInt
	r.take("-")
	if !r.take("0") {
		r.needDigits()
	}
	if r.take(".") {
		kind = api.TokFloat
		r.needDigits()
	}
	if r.takeOne("eE") {
		kind = api.TokFloat
		r.takeOne("+-")
		r.needDigits()
	}
	if r.sees(digits + "." + letters) {
		r.fail(api.ErrLexNumber)
	}
	return kind
}

func (r *reader) needDigits() {
	if !r.takeRow(digits) {
		r.fail(api.ErrLexNumber)
	}
}
