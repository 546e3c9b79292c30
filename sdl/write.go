package sdl

import (
	"strings"

	"rhizome/api"
	"rhizome/syntax"
)

// writer writes schemas as tokens; size is how long these are, with a blank behind each. It gives up where a schema would have other tokens than it should, or more than a text may have; whether they follow the grammar (an object has a field, an enum's word is none that may not be), Parse is asked at the end.
type writer struct {
	tokens []string
	size   int
}

func (w *writer) need(holds bool) {
	if !holds {
		panic(fault{0, api.ErrSdlForm})
	}
}

func (w *writer) put(tokens ...string) {
	for _, x := range tokens {
		// A schema that is too long anyway is not gone over to its end.
		w.need(w.size+len(x) <= api.MaxText)
		w.tokens = append(w.tokens, x)
		w.size += len(x) + 1
	}
}

func (w *writer) name(s string) {
	w.need(syntax.Name(s))
	w.put(s)
}

func (w *writer) schema(s api.Schema) {
	for _, x := range s.Objects {
		w.object(x)
	}
	for _, x := range s.Enums {
		w.enum(x)
	}
}

func (w *writer) object(x api.Object) {
	w.put("type")
	w.name(x.Name)
	w.put("{")
	for _, f := range x.Fields {
		w.field(f)
	}
	w.put("}")
}

func (w *writer) enum(x api.Enum) {
	w.put("enum")
	w.name(x.Name)
	w.put("{")
	for _, word := range x.Words {
		w.name(word)
	}
	w.put("}")
}

func (w *writer) field(x api.Field) {
	w.name(x.Name)
	w.put(":")
	w.ref(x.Type)
	if x.Search {
		w.put("@", "search")
	}
	if x.Inverse != "" {
		w.put("@", "hasInverse", "(", "field", ":")
		w.name(x.Inverse)
		w.put(")")
	}
}

// ref writes a type: what is around its name comes from within outwards.
func (w *writer) ref(x api.Ref) {
	inner, outer, list := strings.Cut(x.Wraps, "[")
	if list {
		w.put("[")
	}
	w.name(x.Name)
	w.bang(inner)
	if list {
		w.put("]")
		w.bang(outer)
	}
}

// bang writes the sign of what may not be null, if it is there: nothing else may be.
func (w *writer) bang(s string) {
	w.need(s == "" || s == "!")
	if s != "" {
		w.put(s)
	}
}
