package coerce

import (
	"strconv"

	"rhizome/api"
	"rhizome/floats"
	"rhizome/jsons"
	"rhizome/runes"
)

// values are what a document's values are told by: definitions, and variables, each of which is sought once.
type values struct {
	types
	vars    api.Json
	members map[string]int
}

func valuesOf(defs []api.Def, vars api.Json) values {
	return values{typesOf(defs), vars, membersOf(vars)}
}

// value is a document's value in its slot; false: it is a variable that is not there. It gives up at what may not stand there.
func (c values) value(v api.Value, s slot) (api.Json, bool) {
	if v.Kind == api.ValVar {
		return c.variable(v.Text, s.must)
	}
	return c.fixed(v, s), true
}

func (c values) variable(name string, must bool) (api.Json, bool) {
	at, is := c.members[name]
	if !is {
		return api.Json{}, false
	}
	// Get tells a copy, so that nothing is shared by two places at which one variable stands.
	j, _ := jsons.Get(api.Json{Kind: api.JsonObject, Keys: []string{name}, List: c.vars.List[at : at+1]}, name)
	if j.Kind == api.JsonNull && must {
		panic(api.ErrCoerceValue)
	}
	return j, true
}

// fixed is of a value that is no variable.
func (c values) fixed(v api.Value, s slot) api.Json {
	switch {
	case v.Kind == api.ValNull && s.must:
		panic(api.ErrCoerceValue)
	case v.Kind == api.ValNull:
		return api.Json{}
	case s.list:
		return c.list(v, slotOf(s.of))
	}
	return c.named(v, s.of.Name)
}

func (c values) list(v api.Value, s slot) api.Json {
	l := []api.Value{v}
	if v.Kind == api.ValList {
		l = v.List
	}
	o := api.Json{Kind: api.JsonList}
	for _, x := range l {
		j, says := c.value(x, s)
		if !says && s.must {
			panic(api.ErrCoerceValue)
		}
		o.List = append(o.List, j)
	}
	return o
}

// named is of a type without an end, and of a value that is neither a variable nor null.
func (c values) named(v api.Value, name string) api.Json {
	switch d := c.of(name); d.kind {
	case api.DefScalar:
		return scalar(v, name)
	case api.DefEnum:
		if _, is := d.words[v.Text]; is && v.Kind == api.ValEnum {
			return textOf(v.Text)
		}
	case api.DefInput:
		if v.Kind == api.ValObject && d.fields.all(v.Names) {
			return c.object(v, d.fields)
		}
	}
	panic(api.ErrCoerceValue)
}

func (c values) object(v api.Value, f *fields) api.Json {
	return f.object(v.Names, api.ErrCoerceValue, func(at int, s slot) (api.Json, bool) {
		if at >= len(v.List) {
			return api.Json{}, false
		}
		return c.value(v.List[at], s)
	})
}

func scalar(v api.Value, name string) api.Json {
	text := v.Kind == api.ValText && runes.Valid(v.Text)
	switch {
	case name == "Int" && v.Kind == api.ValInt:
		return wholeOf(whole(v.Text))
	case name == "Float" && (v.Kind == api.ValInt || v.Kind == api.ValFloat):
		return floatOf(number(v.Text))
	case name == "String" && text, name == "ID" && text, name == "ID" && v.Kind == api.ValInt:
		return textOf(v.Text)
	case name == "Boolean" && v.Kind == api.ValFalse:
		return api.Json{Kind: api.JsonFalse}
	case name == "Boolean" && v.Kind == api.ValTrue:
		return api.Json{Kind: api.JsonTrue}
	}
	panic(api.ErrCoerceValue)
}

// number is that of a number's text.
func number(s string) uint64 {
	bits, e := floats.Parse(s)
	if e != api.OK {
		panic(api.ErrCoerceValue)
	}
	return bits
}

// whole is the Int of a number's text without a point and a power.
func whole(s string) int {
	const bits = 32
	number(s)
	n, err := strconv.ParseInt(s, 10, bits)
	if err != nil {
		panic(api.ErrCoerceValue)
	}
	return int(n)
}
