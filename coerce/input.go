package coerce

import (
	"math"
	"strconv"

	"rhizome/api"
	"rhizome/floats"
	"rhizome/runes"
)

// input is a JSON value in its slot; it gives up at what may not stand there.
func (t types) input(j api.Json, s slot) api.Json {
	switch {
	case j.Kind == api.JsonNull && s.must:
		panic(api.ErrCoerceVar)
	case j.Kind == api.JsonNull:
		return api.Json{}
	case s.list:
		return t.inputList(j, slotOf(s.of))
	}
	return t.inputNamed(j, s.of.Name)
}

func (t types) inputList(j api.Json, s slot) api.Json {
	l := []api.Json{j}
	if j.Kind == api.JsonList {
		l = j.List
	}
	o := api.Json{Kind: api.JsonList}
	for _, x := range l {
		o.List = append(o.List, t.input(x, s))
	}
	return o
}

// inputNamed is of a type without an end, and of a value that is not null.
func (t types) inputNamed(j api.Json, name string) api.Json {
	switch d := t.of(name); d.kind {
	case api.DefScalar:
		return inputScalar(j, name)
	case api.DefEnum:
		if _, is := d.words[j.Text]; is && j.Kind == api.JsonText {
			return textOf(j.Text)
		}
	case api.DefInput:
		if j.Kind == api.JsonObject && d.fields.all(j.Keys) {
			return t.inputObject(j, d.fields)
		}
	}
	panic(api.ErrCoerceVar)
}

func (t types) inputObject(j api.Json, f *fields) api.Json {
	return f.object(j.Keys, api.ErrCoerceVar, func(at int, s slot) (api.Json, bool) {
		if at >= len(j.List) {
			return api.Json{}, false
		}
		return t.input(j.List[at], s), true
	})
}

func inputScalar(j api.Json, name string) api.Json {
	whole := j.Kind == api.JsonInt
	text := j.Kind == api.JsonText && runes.Valid(j.Text)
	switch {
	case name == "Int" && whole && j.Int >= math.MinInt32 && j.Int <= math.MaxInt32:
		return wholeOf(j.Int)
	case name == "Float" && whole:
		return floatOf(floats.Of(j.Int))
	case name == "Float" && j.Kind == api.JsonFloat && isFinite(j.Bits):
		return floatOf(j.Bits)
	case name == "String" && text, name == "ID" && text:
		return textOf(j.Text)
	case name == "ID" && whole:
		return textOf(strconv.Itoa(j.Int))
	case name == "Boolean" && (j.Kind == api.JsonFalse || j.Kind == api.JsonTrue):
		return api.Json{Kind: j.Kind}
	}
	panic(api.ErrCoerceVar)
}

func isFinite(bits uint64) bool {
	kind := floats.Kind(bits)
	return kind != api.FloatInf && kind != api.FloatNan
}

func wholeOf(n int) api.Json { return api.Json{Kind: api.JsonInt, Int: n} }

func floatOf(bits uint64) api.Json { return api.Json{Kind: api.JsonFloat, Bits: bits} }

func textOf(s string) api.Json { return api.Json{Kind: api.JsonText, Text: s} }
