package values

import (
	"slices"
	"strconv"

	"rhizome/api"
	"rhizome/floats"
	"rhizome/gen"
	"rhizome/refs"
)

// types are definitions; each name is sought once.
type types struct {
	defs   []api.Def
	sought map[string]def
}

// def is a definition, with the types of its Ins by their names.
type def struct {
	api.Def
	ins map[string]api.Ref
}

func typesOf(defs []api.Def) types { return types{defs, map[string]def{}} }

// of is the definition of a name; its Kind is below 0: there is none.
func (t types) of(name string) def {
	d, is := t.sought[name]
	if !is {
		d.Kind = -1
		if at := gen.Find(t.defs, name); at >= 0 {
			d = def{t.defs[at], insOf(t.defs[at].Ins)}
		}
		t.sought[name] = d
	}
	return d
}

// insOf are types by their names: of several with one name the first.
func insOf(l []api.In) map[string]api.Ref {
	first := map[string]api.Ref{}
	for _, x := range slices.Backward(l) {
		first[x.Name] = x.Type
	}
	return first
}

func (t types) fits(v api.Value, at api.Ref) bool {
	switch v.Kind {
	case api.ValVar:
		return true
	case api.ValNull:
		end, _ := refs.Cut(at)
		return end != '!'
	}
	end, inner := under(v, at)
	if end == 0 {
		return t.fitsName(v, inner.Name)
	}
	return !slices.ContainsFunc(v.List, func(x api.Value) bool { return !t.fits(x, inner) })
}

// under takes all ends off a type but the first that holds a value up: `[` does a list. It tells that, or 0, and the type without it.
func under(v api.Value, t api.Ref) (byte, api.Ref) {
	end, inner := refs.Cut(t)
	for end == '!' || end == '[' && v.Kind != api.ValList {
		end, inner = refs.Cut(inner)
	}
	return end, inner
}

// fitsName is of a type without an end, and of a value that is neither a variable nor null.
func (t types) fitsName(v api.Value, name string) bool {
	switch d := t.of(name); d.Kind {
	case api.DefScalar:
		return fitsScalar(v, name)
	case api.DefEnum:
		return v.Kind == api.ValEnum && slices.Contains(d.Words, v.Text)
	case api.DefInput:
		return v.Kind == api.ValObject && t.fitsInput(v, d)
	}
	return true
}

func (t types) fitsInput(v api.Value, d def) bool {
	all := true
	d.each(v, func(x api.Value, at api.Ref) { all = all && t.fits(x, at) })
	return all
}

func fitsScalar(v api.Value, name string) bool {
	switch name {
	case "Int":
		return v.Kind == api.ValInt && number(v.Text) && whole(v.Text)
	case "Float":
		return (v.Kind == api.ValInt || v.Kind == api.ValFloat) && number(v.Text)
	case "String":
		return v.Kind == api.ValText
	case "Boolean":
		return v.Kind == api.ValFalse || v.Kind == api.ValTrue
	case "ID":
		return v.Kind == api.ValText || v.Kind == api.ValInt
	}
	return false
}

func number(s string) bool {
	_, e := floats.Parse(s)
	return e == api.OK
}

// whole: does a number's text, without a point and a power, say an Int?
func whole(s string) bool {
	const bits = 32
	_, err := strconv.ParseInt(s, 10, bits)
	return err == nil
}

// each hands on each value of an object whose name one of an input's Ins has, with the type there.
func (d def) each(v api.Value, hand func(api.Value, api.Ref)) {
	for i := range min(len(v.Names), len(v.List)) {
		if at, is := d.ins[v.Names[i]]; is {
			hand(v.List[i], at)
		}
	}
}

// lying hands on each variable in a value with the type at which it lies, and each object that lies at an input with that.
func (t types) lying(v api.Value, at api.Ref, variable func(string, api.Ref), object func(api.Value, def)) {
	if v.Kind == api.ValVar {
		variable(v.Text, at)
		return
	}
	end, inner := under(v, at)
	if end != 0 {
		for _, x := range v.List {
			t.lying(x, inner, variable, object)
		}
		return
	}
	if d := t.of(inner.Name); d.Kind == api.DefInput && v.Kind == api.ValObject {
		object(v, d)
		d.each(v, func(x api.Value, at api.Ref) { t.lying(x, at, variable, object) })
	}
}

// within hands on a value, and all that stand within it, however deep.
func within(v api.Value, hand func(api.Value)) {
	hand(v)
	for _, x := range v.List {
		within(x, hand)
	}
}

// goes: does one type go for another one?
func goes(v, t api.Ref) bool {
	for {
		has, own := refs.Cut(v)
		wants, inner := refs.Cut(t)
		switch {
		case has == wants && has == 0:
			return v.Name == t.Name
		case has == wants:
			v, t = own, inner
		case has == '!':
			v = own
		default:
			return false
		}
	}
}
