package print

import (
	"rhizome/api"
	"rhizome/lex"
	"rhizome/syntax"
)

// isZero tells whether a value is the zero one.
func isZero(v api.Value) bool {
	return v.Kind == api.ValNull && v.Text == "" && len(v.List)+len(v.Names) == 0
}

func (w writer) value(v api.Value) bool {
	switch v.Kind {
	case api.ValList:
		return v.Text == "" && len(v.Names) == 0 && within(w.put, "[", v.List, w.value, "]")
	case api.ValObject:
		return v.Text == "" && len(v.Names) == len(v.List) && w.put("{") && w.members(v) && w.put("}")
	}
	return len(v.List)+len(v.Names) == 0 && w.leaf(v.Kind, v.Text)
}

// members writes an object's names, each with its value.
func (w writer) members(v api.Value) bool {
	for i, name := range v.Names {
		if !w.arg(api.Arg{Name: name, Value: v.List[i]}) {
			return false
		}
	}
	return true
}

// leaf writes a value that has no others in it.
func (w writer) leaf(kind int, text string) bool {
	switch kind {
	case api.ValNull:
		return text == "" && w.put("null")
	case api.ValFalse:
		return text == "" && w.put("false")
	case api.ValTrue:
		return text == "" && w.put("true")
	case api.ValVar:
		return !w.fixed && w.variable(text)
	case api.ValInt:
		return syntax.Number(text) == api.TokInt && w.put(text)
	case api.ValFloat:
		return syntax.Number(text) == api.TokFloat && w.put(text)
	case api.ValText:
		return w.text(text)
	case api.ValEnum:
		return w.name(text, "true", "false", "null")
	}
	return false
}

func (w writer) variable(name string) bool { return w.put("$") && w.name(name) }

// text writes a text as a string, if that is one token that says it.
func (w writer) text(s string) bool {
	// A string is longer than what it says: what is too long anyway is not quoted first.
	if len(s) > api.MaxText {
		return false
	}
	quoted := lex.Quote(s)
	l, _, e := lex.Tokens(quoted)
	return e == api.OK && len(l) == 1 && l[0].Text == s && w.put(quoted)
}
