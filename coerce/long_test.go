package coerce_test

import (
	"slices"
	"strconv"
	"strings"
	"testing"

	"rhizome/api"
	"rhizome/coerce"
)

const deep = 1 << 16

// jsonAround puts a value so often into a list, or, with a name, into an object.
func jsonAround(j api.Json, name string, times int) api.Json {
	for range times {
		if name == "" {
			j = api.Json{Kind: api.JsonList, List: []api.Json{j}}
		} else {
			j = api.Json{Kind: api.JsonObject, Keys: []string{name}, List: []api.Json{j}}
		}
	}
	return j
}

func around(v api.Value, name string, times int) api.Value {
	for range times {
		if name == "" {
			v = api.Value{Kind: api.ValList, List: []api.Value{v}}
		} else {
			v = api.Value{Kind: api.ValObject, Names: []string{name}, List: []api.Value{v}}
		}
	}
	return v
}

// tells holds an answer, of what is too large for the model, against what is wanted; nil: it may not be.
func tells(t *testing.T, what string, j api.Json, e api.Errno, want *api.Json, wrong api.Errno) {
	t.Helper()
	if want == nil && (e != wrong || !same(j, api.Json{})) || want != nil && (e != api.OK || !same(j, *want)) {
		t.Errorf("%s: %d", what, e)
	}
}

// R1: what is deep.
func TestDeep(t *testing.T) {
	one, num := api.Json{Kind: api.JsonInt, Int: 1}, api.Value{Kind: api.ValInt, Text: "1"}
	yes, is := api.Json{Kind: api.JsonTrue}, api.Value{Kind: api.ValTrue}
	defs := append(types(t, wide), api.Def{Name: "I", Kind: api.DefInput, Ins: []api.In{{Name: "i", Type: api.Ref{Name: "I", Wraps: "!["}}, {Name: "n", Type: api.Ref{Name: "Int"}}}})
	for _, sign := range []string{"[", "!["} {
		at := api.Ref{Name: "Int", Wraps: strings.Repeat(sign, deep)}
		full := jsonAround(one, "", deep)
		for n, want := range map[int]*api.Json{0: &full, 1: &full, deep: &full, deep + 1: nil} {
			j, e := coerce.Input(jsonAround(one, "", n), at, defs)
			tells(t, "Input", j, e, want, api.ErrCoerceVar)
			j, _, e = coerce.Value(around(num, "", n), at, defs, api.Json{})
			tells(t, "Value", j, e, want, api.ErrCoerceValue)
			j, e = coerce.Input(jsonAround(yes, "", n), at, defs)
			tells(t, "Input", j, e, nil, api.ErrCoerceVar)
			j, _, e = coerce.Value(around(is, "", n), at, defs, api.Json{})
			tells(t, "Value", j, e, nil, api.ErrCoerceValue)
		}
	}
	at := api.Ref{Name: "I", Wraps: "!"}
	want := api.Json{Kind: api.JsonObject, Keys: []string{"n"}, List: []api.Json{one}}
	for range deep/2 - 1 {
		want = api.Json{Kind: api.JsonObject, Keys: []string{"i"}, List: []api.Json{{Kind: api.JsonList, List: []api.Json{want}}}}
	}
	for leaf, want := range map[int]*api.Json{api.JsonInt: &want, api.JsonTrue: nil} {
		j, e := coerce.Input(jsonAround(jsonAround(api.Json{Kind: leaf, Int: 1}, "n", 1), "i", deep/2-1), at, defs)
		tells(t, "Input", j, e, want, api.ErrCoerceVar)
		v := around(around(map[int]api.Value{api.JsonInt: num, api.JsonTrue: is}[leaf], "n", 1), "i", deep/2-1)
		j, _, e = coerce.Value(v, at, defs, api.Json{})
		tells(t, "Value", j, e, want, api.ErrCoerceValue)
		j, e = coerce.Args([]api.Arg{{Name: "a", Value: v}}, []api.In{{Name: "a", Type: at}}, defs, api.Json{})
		if want != nil {
			want = &api.Json{Kind: api.JsonObject, Keys: []string{"a"}, List: []api.Json{*want}}
		}
		tells(t, "Args", j, e, want, api.ErrCoerceValue)
		j, e = coerce.Vars([]api.Var{{Name: "a", Type: at, Has: true, Default: v}}, api.Json{}, defs)
		tells(t, "Vars", j, e, want, api.ErrCoerceValue)
	}
	// A variable's member, as it is.
	known := api.Json{Kind: api.JsonObject, Keys: []string{"x"}, List: []api.Json{jsonAround(yes, "k", deep)}}
	j, _, e := coerce.Value(api.Value{Kind: api.ValVar, Text: "x"}, at, defs, known)
	tells(t, "a variable", j, e, &known.List[0], api.ErrCoerceValue)
	j, e = coerce.Input(known, api.Ref{Name: "Int"}, defs)
	tells(t, "no object", j, e, nil, api.ErrCoerceVar)
}

// Types with many signs.
func TestLongWraps(t *testing.T) {
	const many = 300000
	defs := types(t, wide)
	one, num := api.Json{Kind: api.JsonInt, Int: 1}, api.Value{Kind: api.ValInt, Text: "1"}
	for _, at := range []api.Ref{{Name: "Int", Wraps: strings.Repeat("!", many)}, {Name: "Int", Wraps: "[?" + strings.Repeat("!", many)}} {
		j, e := coerce.Input(one, at, defs)
		tells(t, "1", j, e, &one, api.ErrCoerceVar)
		j, e = coerce.Input(api.Json{}, at, defs)
		tells(t, "null", j, e, nil, api.ErrCoerceVar)
		j, _, e = coerce.Value(num, at, defs, api.Json{})
		tells(t, "1", j, e, &one, api.ErrCoerceValue)
		j, _, e = coerce.Value(api.Value{}, at, defs, api.Json{})
		tells(t, "null", j, e, nil, api.ErrCoerceValue)
	}
	// Many values, each by a type of many signs.
	at := api.Ref{Name: "Int", Wraps: strings.Repeat("!", many) + "["}
	list := api.Json{Kind: api.JsonList, List: slices.Repeat([]api.Json{one}, many)}
	j, e := coerce.Input(list, at, defs)
	tells(t, "many", j, e, &list, api.ErrCoerceVar)
	j, _, e = coerce.Value(api.Value{Kind: api.ValList, List: slices.Repeat([]api.Value{num}, many)}, at, defs, api.Json{})
	tells(t, "many", j, e, &list, api.ErrCoerceValue)
	list.List[many-1] = api.Json{}
	j, e = coerce.Input(list, at, defs)
	tells(t, "many", j, e, nil, api.ErrCoerceVar)
}

// Many variables, members, arguments, names, Ins, words, definitions, and many of one of them by many of another.
func TestLong(t *testing.T) {
	const many = 100000
	one, num := api.Json{Kind: api.JsonInt, Int: 1}, api.Value{Kind: api.ValInt, Text: "1"}
	var l []api.Var
	var args, uses []api.Arg
	var ins []api.In
	var words, small []api.Value
	known, object, list := api.Json{Kind: api.JsonObject}, api.Value{Kind: api.ValObject}, api.Value{Kind: api.ValList}
	enum, defs := api.Def{Name: "X", Kind: api.DefEnum}, types(t, wide)
	for i := range many {
		name := "a" + strconv.Itoa(i)
		l = append(l, api.Var{Name: name, Type: api.Ref{Name: "Int"}})
		args = append(args, api.Arg{Name: name, Value: num})
		uses = append(uses, api.Arg{Name: name, Value: api.Value{Kind: api.ValVar, Text: name}})
		ins = append(ins, api.In{Name: name, Type: api.Ref{Name: "Int", Wraps: []string{"", "!"}[min(i, 1)]}})
		words = append(words, api.Value{Kind: api.ValEnum, Text: name})
		small = append(small, api.Value{Kind: api.ValObject, Names: []string{name}, List: []api.Value{num}})
		known.Keys, known.List = append(known.Keys, name), append(known.List, one)
		object.Names, object.List = append(object.Names, name), append(object.List, api.Value{Kind: api.ValVar, Text: name})
		list.List = append(list.List, object.List[i])
		enum.Words = append(enum.Words, name)
		defs = append(defs, api.Def{Name: name})
	}
	none := slices.Clone(ins)
	for i := range none {
		none[i].Type.Wraps = ""
	}
	defs = append(defs, enum, api.Def{Name: "I", Kind: api.DefInput, Ins: ins}, api.Def{Name: "J", Kind: api.DefInput, Ins: none})
	value := func(v api.Value, at api.Ref, vars api.Json, want *api.Json) {
		t.Helper()
		j, _, e := coerce.Value(v, at, defs, vars)
		tells(t, "Value", j, e, want, api.ErrCoerceValue)
	}
	at := api.Ref{Name: "I"}
	value(object, at, known, &known)
	value(object, at, api.Json{}, nil)
	value(api.Value{Kind: api.ValObject, Names: object.Names[1:], List: object.List[1:]}, at, known, &api.Json{Kind: api.JsonObject, Keys: known.Keys[1:], List: known.List[1:]})
	value(api.Value{Kind: api.ValObject, Names: object.Names[:many-1], List: object.List}, at, known, nil)
	j, e := coerce.Input(known, at, defs)
	tells(t, "Input", j, e, &known, api.ErrCoerceVar)
	value(list, api.Ref{Name: "Int", Wraps: "!["}, known, &api.Json{Kind: api.JsonList, List: known.List})
	value(list, api.Ref{Name: "Int", Wraps: "!["}, api.Json{Kind: api.JsonObject, Keys: known.Keys, List: known.List[:many-1]}, nil)
	texts, objects := api.Json{Kind: api.JsonList}, api.Json{Kind: api.JsonList}
	for _, x := range words {
		texts.List = append(texts.List, api.Json{Kind: api.JsonText, Text: x.Text})
		objects.List = append(objects.List, api.Json{Kind: api.JsonObject, Keys: []string{x.Text}, List: []api.Json{one}})
	}
	value(api.Value{Kind: api.ValList, List: words}, api.Ref{Name: "X", Wraps: "!["}, known, &texts)
	j, e = coerce.Input(texts, api.Ref{Name: "X", Wraps: "!["}, defs)
	tells(t, "Input", j, e, &texts, api.ErrCoerceVar)
	value(api.Value{Kind: api.ValList, List: small}, api.Ref{Name: "J", Wraps: "!["}, known, &objects)
	value(api.Value{Kind: api.ValList, List: small}, api.Ref{Name: "I", Wraps: "!["}, known, nil)
	j, e = coerce.Input(objects, api.Ref{Name: "J", Wraps: "!["}, defs)
	tells(t, "Input", j, e, &objects, api.ErrCoerceVar)

	for _, x := range [][]api.Arg{args, uses, append(slices.Clip(args), uses...)} {
		j, e = coerce.Args(x, ins, defs, known)
		tells(t, "Args", j, e, &known, api.ErrCoerceValue)
		j, e = coerce.Args(x[:many-1], ins, defs, known)
		tells(t, "Args", j, e, nil, api.ErrCoerceValue)
		j, e = coerce.Args(x, ins[:1], defs, known)
		tells(t, "Args", j, e, &api.Json{Kind: api.JsonObject, Keys: []string{"a0"}, List: []api.Json{one}}, api.ErrCoerceValue)
	}
	slices.Reverse(args)
	j, e = coerce.Args(args, append(ins, ins...), defs, known)
	tells(t, "Args", j, e, &known, api.ErrCoerceValue)

	j, e = coerce.Vars(l, known, defs)
	tells(t, "Vars", j, e, &known, api.ErrCoerceVar)
	j, e = coerce.Vars(append(l, l...), known, defs)
	tells(t, "Vars", j, e, &known, api.ErrCoerceVar)
	j, e = coerce.Vars(l, api.Json{}, defs)
	tells(t, "Vars", j, e, &api.Json{Kind: api.JsonObject}, api.ErrCoerceVar)
	for i := range l {
		l[i].Has, l[i].Default = true, num
	}
	j, e = coerce.Vars(l, api.Json{}, defs)
	tells(t, "Vars", j, e, &known, api.ErrCoerceVar)
	l[many-1].Default.Kind = api.ValTrue
	j, e = coerce.Vars(l, api.Json{}, defs)
	tells(t, "Vars", j, e, nil, api.ErrCoerceValue)
	j, e = coerce.Vars(l, api.Json{Kind: api.JsonObject, Keys: known.Keys, List: known.List[:many-1]}, defs)
	tells(t, "Vars", j, e, nil, api.ErrCoerceValue)
}
