package sdl

import (
	"slices"

	"rhizome/api"
)

// end is the sign of the token that stands behind a text's own ones, so that there is always one that is next: no punctuator is empty.
const end = ""

// reader reads tokens from the left: those ahead of at are read.
type reader struct {
	tokens []api.Token
	at     int
}

func (r *reader) next() api.Token { return r.tokens[r.at] }

// giveUp tells that the token that is next can't follow.
func (r *reader) giveUp() { panic(fault{r.next().At, api.ErrSdlText}) }

func (r *reader) need(holds bool) {
	if !holds {
		r.giveUp()
	}
}

// takes goes over a token of that kind and text, if it is next: a string that says the same is of another kind.
func (r *reader) takes(kind int, text string) bool {
	is := r.next().Kind == kind && r.next().Text == text
	if is {
		r.at++
	}
	return is
}

func (r *reader) takesSign(sign string) bool { return r.takes(api.TokPunct, sign) }

func (r *reader) takesWord(word string) bool { return r.takes(api.TokName, word) }

func (r *reader) sign(sign string) { r.need(r.takesSign(sign)) }

func (r *reader) name() string {
	next := r.next()
	r.need(next.Kind == api.TokName)
	r.at++
	return next.Text
}

// word reads a word of an enum.
func (r *reader) word() string {
	r.need(!slices.Contains([]string{"true", "false", "null"}, r.next().Text))
	return r.name()
}

// within reads one or more between braces.
func within[T any](r *reader, one func() T) []T {
	r.sign("{")
	l := []T{one()}
	for !r.takesSign("}") {
		l = append(l, one())
	}
	return l
}

func (r *reader) schema() api.Schema {
	var s api.Schema
	r.define(&s)
	for !r.takesSign(end) {
		r.define(&s)
	}
	return s
}

// define reads an object or an enum into a schema.
func (r *reader) define(s *api.Schema) {
	switch {
	case r.takesWord("type"):
		s.Objects = append(s.Objects, api.Object{Name: r.name(), Fields: within(r, r.field)})
	case r.takesWord("enum"):
		s.Enums = append(s.Enums, api.Enum{Name: r.name(), Words: within(r, r.word)})
	default:
		r.giveUp()
	}
}

func (r *reader) field() api.Field {
	f := api.Field{Name: r.name()}
	r.sign(":")
	f.Type = r.ref()
	// Behind one directive of each kind not even the sign of another can follow.
	for (!f.Search || f.Inverse == "") && r.takesSign("@") {
		r.directive(&f)
	}
	return f
}

// ref reads a type: what is around its name is told from within outwards.
func (r *reader) ref() api.Ref {
	list := r.takesSign("[")
	x := api.Ref{Name: r.name(), Wraps: r.bang()}
	if list {
		r.sign("]")
		x.Wraps += "[" + r.bang()
	}
	return x
}

// bang reads the sign of what may not be null, if it is there.
func (r *reader) bang() string {
	if r.takesSign("!") {
		return "!"
	}
	return ""
}

// directive reads one behind its sign, if the field has none of its kind.
func (r *reader) directive(f *api.Field) {
	switch {
	case !f.Search && r.takesWord("search"):
		f.Search = true
	case f.Inverse == "" && r.takesWord("hasInverse"):
		f.Inverse = r.inverse()
	default:
		r.giveUp()
	}
}

// inverse reads what stands behind the name of its directive.
func (r *reader) inverse() string {
	r.sign("(")
	r.need(r.takesWord("field"))
	r.sign(":")
	name := r.name()
	r.sign(")")
	return name
}
