package coerce_test

import (
	"math"
	"math/big"
	"regexp"
	"strconv"
	"strings"
	"unicode/utf8"

	"rhizome/api"
	"rhizome/jsons"
)

// The model goes by the chapter's steps one by one: types lose one sign at a time, and each name is sought from the beginning of its list. What may not be is nil.

// modelDef is the first definition of a name; nil: there is none.
func modelDef(defs []api.Def, name string) *api.Def {
	for i := range defs {
		if defs[i].Name == name {
			return &defs[i]
		}
	}
	return nil
}

// modelOnce are Ins without those whose name one ahead has.
func modelOnce(l []api.In) []api.In {
	var once []api.In
	for _, x := range l {
		if _, is := modelIn(once, x.Name); !is {
			once = append(once, x)
		}
	}
	return once
}

func modelIn(l []api.In, name string) (api.In, bool) {
	for _, x := range l {
		if x.Name == name {
			return x, true
		}
	}
	return api.In{}, false
}

// modelAll: are all names those of Ins?
func modelAll(l []api.In, names []string) bool {
	for _, x := range names {
		if _, is := modelIn(l, x); !is {
			return false
		}
	}
	return true
}

func modelMust(t api.Ref) bool { return strings.HasSuffix(t.Wraps, "!") }

func modelList(t api.Ref) bool { return strings.HasSuffix(t.Wraps, "[") }

func modelInner(t api.Ref) api.Ref { return api.Ref{Name: t.Name, Wraps: t.Wraps[:len(t.Wraps)-1]} }

func modelText(s string) *api.Json { return &api.Json{Kind: api.JsonText, Text: s} }

func modelInput(j api.Json, t api.Ref, defs []api.Def) *api.Json {
	switch {
	case modelMust(t) && j.Kind == api.JsonNull:
		return nil
	case modelMust(t):
		return modelInput(j, modelInner(t), defs)
	case j.Kind == api.JsonNull:
		return &api.Json{}
	case modelList(t) && j.Kind == api.JsonList:
		o := &api.Json{Kind: api.JsonList}
		for _, x := range j.List {
			v := modelInput(x, modelInner(t), defs)
			if v == nil {
				return nil
			}
			o.List = append(o.List, *v)
		}
		return o
	case modelList(t):
		return modelInput(api.Json{Kind: api.JsonList, List: []api.Json{j}}, t, defs)
	}
	return modelInputNamed(j, modelDef(defs, t.Name), defs)
}

func modelInputNamed(j api.Json, d *api.Def, defs []api.Def) *api.Json {
	switch {
	case d == nil:
		return nil
	case d.Kind == api.DefScalar:
		return modelInputScalar(j, d.Name)
	case d.Kind == api.DefEnum && j.Kind == api.JsonText:
		for _, x := range d.Words {
			if x == j.Text {
				return modelText(x)
			}
		}
	case d.Kind == api.DefInput && j.Kind == api.JsonObject && modelAll(d.Ins, j.Keys):
		o := &api.Json{Kind: api.JsonObject}
		for _, in := range modelOnce(d.Ins) {
			x, is := jsons.Get(j, in.Name)
			if !is && modelMust(in.Type) {
				return nil
			}
			if !is {
				continue
			}
			v := modelInput(x, in.Type, defs)
			if v == nil {
				return nil
			}
			o.Keys, o.List = append(o.Keys, in.Name), append(o.List, *v)
		}
		return o
	}
	return nil
}

func modelInputScalar(j api.Json, name string) *api.Json {
	switch name + " " + []string{"null", "false", "true", "int", "float", "text", "list", "object", "none"}[min(uint(j.Kind), 8)] {
	case "Int int":
		if j.Int == int(int32(j.Int)) {
			return &api.Json{Kind: api.JsonInt, Int: j.Int}
		}
	case "Float int":
		return &api.Json{Kind: api.JsonFloat, Bits: math.Float64bits(float64(j.Int))}
	case "Float float":
		if f := math.Float64frombits(j.Bits); !math.IsInf(f, 0) && !math.IsNaN(f) {
			return &api.Json{Kind: api.JsonFloat, Bits: j.Bits}
		}
	case "String text", "ID text":
		if utf8.ValidString(j.Text) {
			return modelText(j.Text)
		}
	case "ID int":
		return modelText(big.NewInt(int64(j.Int)).String())
	case "Boolean false":
		return &api.Json{Kind: api.JsonFalse}
	case "Boolean true":
		return &api.Json{Kind: api.JsonTrue}
	}
	return nil
}

// modelValue tells nil, too, where nothing is said: says is false then.
func modelValue(v api.Value, t api.Ref, defs []api.Def, vars api.Json) (j *api.Json, says bool) {
	if v.Kind == api.ValVar {
		x, is := jsons.Get(vars, v.Text)
		if !is {
			return nil, false
		}
		if x.Kind == api.JsonNull && modelMust(t) {
			return nil, true
		}
		return &x, true
	}
	switch {
	case modelMust(t) && v.Kind == api.ValNull:
		return nil, true
	case modelMust(t):
		return modelValue(v, modelInner(t), defs, vars)
	case v.Kind == api.ValNull:
		return &api.Json{}, true
	case modelList(t) && v.Kind == api.ValList:
		o := &api.Json{Kind: api.JsonList}
		for _, x := range v.List {
			y, is := modelValue(x, modelInner(t), defs, vars)
			if !is && !modelMust(modelInner(t)) {
				y = &api.Json{}
			}
			if y == nil {
				return nil, true
			}
			o.List = append(o.List, *y)
		}
		return o, true
	case modelList(t):
		return modelValue(api.Value{Kind: api.ValList, List: []api.Value{v}}, t, defs, vars)
	}
	return modelNamed(v, modelDef(defs, t.Name), defs, vars), true
}

func modelNamed(v api.Value, d *api.Def, defs []api.Def, vars api.Json) *api.Json {
	switch {
	case d == nil:
		return nil
	case d.Kind == api.DefScalar:
		return modelScalar(v, d.Name)
	case d.Kind == api.DefEnum && v.Kind == api.ValEnum:
		for _, x := range d.Words {
			if x == v.Text {
				return modelText(x)
			}
		}
	case d.Kind == api.DefInput && v.Kind == api.ValObject && modelAll(d.Ins, v.Names):
		return modelObject(d.Ins, defs, vars, func(name string) (api.Value, bool) {
			for i, x := range v.Names {
				if x == name && i < len(v.List) {
					return v.List[i], true
				} else if x == name {
					break
				}
			}
			return api.Value{}, false
		})
	}
	return nil
}

func modelObject(ins []api.In, defs []api.Def, vars api.Json, find func(string) (api.Value, bool)) *api.Json {
	o := &api.Json{Kind: api.JsonObject}
	for _, in := range modelOnce(ins) {
		var y *api.Json
		x, is := find(in.Name)
		if is {
			y, is = modelValue(x, in.Type, defs, vars)
		}
		if is && y == nil || !is && modelMust(in.Type) {
			return nil
		}
		if is {
			o.Keys, o.List = append(o.Keys, in.Name), append(o.List, *y)
		}
	}
	return o
}

var modelForm = regexp.MustCompile(`^-?(0|[1-9][0-9]*)(\.[0-9]+)?([eE][+-]?[0-9]+)?$`)

func modelNumber(s string) bool { return len(s) <= 64 && modelForm.MatchString(s) }

func modelScalar(v api.Value, name string) *api.Json {
	switch name + " " + []string{"null", "false", "true", "var", "int", "float", "text", "enum", "list", "object", "none"}[min(uint(v.Kind), 10)] {
	case "Int int":
		n, is := new(big.Int).SetString(v.Text, 10)
		if modelNumber(v.Text) && is && n.IsInt64() && n.Int64() == int64(int32(n.Int64())) {
			return &api.Json{Kind: api.JsonInt, Int: int(n.Int64())}
		}
	case "Float int", "Float float":
		f, err := strconv.ParseFloat(v.Text, 64)
		if modelNumber(v.Text) && err == nil {
			return &api.Json{Kind: api.JsonFloat, Bits: math.Float64bits(f)}
		}
	case "String text", "ID text":
		if utf8.ValidString(v.Text) {
			return modelText(v.Text)
		}
	case "ID int":
		return modelText(v.Text)
	case "Boolean false":
		return &api.Json{Kind: api.JsonFalse}
	case "Boolean true":
		return &api.Json{Kind: api.JsonTrue}
	}
	return nil
}

func modelArgs(l []api.Arg, ins []api.In, defs []api.Def, vars api.Json) *api.Json {
	return modelObject(ins, defs, vars, func(name string) (api.Value, bool) {
		for _, x := range l {
			if x.Name == name {
				return x.Value, true
			}
		}
		return api.Value{}, false
	})
}

func modelVars(l []api.Var, given api.Json, defs []api.Def) (*api.Json, api.Errno) {
	if given.Kind != api.JsonNull && given.Kind != api.JsonObject {
		return nil, api.ErrCoerceVar
	}
	o := &api.Json{Kind: api.JsonObject}
	for i, x := range l {
		ahead := false
		for _, y := range l[:i] {
			ahead = ahead || y.Name == x.Name
		}
		if ahead {
			continue
		}
		var v *api.Json
		e := api.ErrCoerceVar
		j, is := jsons.Get(given, x.Name)
		if is {
			v = modelInput(j, x.Type, defs)
		} else if x.Has {
			v, is = modelValue(x.Default, x.Type, defs, api.Json{})
			if is {
				e = api.ErrCoerceValue
			}
		}
		if is && v == nil || !is && modelMust(x.Type) {
			return nil, e
		}
		if is {
			o.Keys, o.List = append(o.Keys, x.Name), append(o.List, *v)
		}
	}
	return o, api.OK
}
