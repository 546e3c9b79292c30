package values_test

import (
	"slices"
	"strconv"
	"strings"
	"testing"

	"rhizome/api"
	"rhizome/values"
)

// tells holds Check, of what is too large for the model, against rules.
func tells(t *testing.T, d api.Doc, defs []api.Def, rules ...api.Errno) {
	t.Helper()
	if l := values.Check(d, defs); !slices.Equal(l, rules) {
		t.Errorf("%v, not %v", l, rules)
	}
}

// around puts a value so often into a list, or, with a name, into an object.
func around(v api.Value, name string, times int) api.Value {
	for range times {
		if name == "" {
			v = api.Value{Kind: api.ValList, List: []api.Value{v}}
		} else {
			v = api.Value{Kind: api.ValObject, Names: []string{name}, List: []api.Value{v}}
		}
	}
	return v
}

// R1: values that are deep.
func TestDeepValues(t *testing.T) {
	const deep = 1 << 16
	number, flag := api.Value{Kind: api.ValInt, Text: "1"}, api.Value{Kind: api.ValTrue}
	input := api.Def{Name: "I", Kind: api.DefInput, Ins: []api.In{{Name: "i", Type: api.Ref{Name: "I"}}, {Name: "n", Type: api.Ref{Name: "Int"}}}}
	at := func(name string, lists int) []api.Def {
		return append(roots(api.In{Name: "a", Type: api.Ref{Name: name, Wraps: strings.Repeat("[", lists)}}), input)
	}
	for _, lists := range []int{deep - 1, deep, deep + 1, 4 * deep} {
		bad := of(130)
		if lists >= deep {
			bad = no
		}
		tells(t, argument(around(number, "", deep)), at("Int", lists), bad...)
		tells(t, argument(around(flag, "", deep)), at("Int", lists), 130)
		tells(t, argument(around(api.Value{}, "", deep)), at("Int", lists), bad...)
		tells(t, argument(around(variable("x"), "", deep)), at("Int", lists), append(bad, 136)...)
		tells(t, argument(around(object("a", "a"), "", deep)), at("Nope", lists), 132)
		rules := of(130)
		if lists >= deep {
			rules = of(131)
		}
		tells(t, argument(around(object("x"), "", deep)), at("I", lists), rules...)
		d := argument(around(variable("x"), "", deep))
		for wraps := range 2 {
			d.Ops[0].Vars = []api.Var{{Name: "x", Type: api.Ref{Name: "Int", Wraps: strings.Repeat("[", wraps)}}}
			rules := bad
			if lists >= deep && lists-deep != wraps {
				rules = of(138)
			}
			tells(t, d, at("Int", lists), rules...)
		}
		if is := values.Fits(around(flag, "", deep), api.Ref{Name: "Boolean", Wraps: strings.Repeat("![", lists)}, roots()); is != (lists >= deep) {
			t.Errorf("%d: %v", lists, is)
		}
	}
	tells(t, argument(around(object(), "i", deep)), at("I", 1))
	tells(t, argument(around(flag, "i", deep)), at("I", 0), 130)
	tells(t, argument(around(object("x"), "i", deep)), at("I", 0), 131)
	tells(t, argument(around(object("x", "x"), "i", deep)), at("I", 0), 131, 132)
	tells(t, argument(around(around(variable("x"), "n", 1), "i", deep)), at("I", 0), 136)
	tells(t, argument(around(object("x", "x"), "x", deep)), nil, 132)
}

// Selections that are deep.
func TestDeepSelections(t *testing.T) {
	defs := types(t, chapter)
	for _, x := range []api.Sel{{Name: "b", Args: []api.Arg{{Name: "first", Value: variable("x")}}}, {Kind: api.SelInline}, {Kind: api.SelInline, On: "T"}, {Kind: api.SelSpread, Name: "f"}} {
		l := []api.Sel{{Kind: api.SelInline, Directives: []api.Directive{{Name: "x", Args: []api.Arg{{Value: variable("x")}, {Value: object("a", "a")}}}}}}
		for range 1 << 16 {
			x.Sels = l
			l = []api.Sel{x}
		}
		vars := []api.Var{{Name: "x", Type: api.Ref{Name: "Int"}}}
		tells(t, api.Doc{Frags: []api.Frag{{Name: "f", On: "T", Sels: l}}}, defs, 132)
		tells(t, api.Doc{Ops: []api.Op{{Vars: vars, Sels: spreads("f")}}, Frags: []api.Frag{{Name: "f", On: "T", Sels: l}}}, defs, 132)
		tells(t, api.Doc{Ops: []api.Op{{Sels: []api.Sel{{Name: "queryT", Sels: l}}}}}, defs, 132, 136)
	}
}

// Types with many signs.
func TestLongWraps(t *testing.T) {
	const many = 1000000
	musts, lists, both := strings.Repeat("!", many), strings.Repeat("[", many), strings.Repeat("![", many)
	for _, wraps := range []string{musts, lists, both, "?" + musts} {
		at := api.Ref{Name: "Boolean", Wraps: wraps}
		if values.Fits(api.Value{}, at, roots()) == strings.HasSuffix(wraps, "!") {
			t.Errorf("%.9s: null", wraps)
		}
		if !values.Fits(api.Value{Kind: api.ValTrue}, at, roots()) {
			t.Errorf("%.9s: true does not fit", wraps)
		}
		if values.Fits(api.Value{Kind: api.ValInt}, at, roots()) {
			t.Errorf("%.9s: a number fits", wraps)
		}
	}
	for _, c := range []struct {
		own, at string
		goes    bool
	}{
		{musts, musts, true}, {musts, musts + "!", false}, {musts + "!", musts, true}, {musts, "", true}, {"", musts, false}, {musts, "[", false},
		{lists, lists, true}, {lists, lists + "[", false}, {lists + "[", lists, false}, {lists + "!", lists, true}, {lists, "", false}, {"", lists, false},
		{both, both, true}, {both, lists, true}, {lists, both, false}, {both + "!", lists, true}, {lists, lists + "!", false},
	} {
		d := argument(variable("x"))
		d.Ops[0].Vars = []api.Var{{Name: "x", Type: api.Ref{Name: "Boolean", Wraps: c.own}}}
		rules := of(138)
		if c.goes {
			rules = no
		}
		tells(t, d, roots(api.In{Name: "a", Type: api.Ref{Name: "Boolean", Wraps: c.at}}), rules...)
	}
}

// chain is a row of fragments, each of which spreads the next, and the last one what is handed in.
func chain(n int, last ...api.Sel) []api.Frag {
	var l []api.Frag
	for i := range n {
		sels := last
		if i+1 < n {
			sels = spreads("f" + strconv.Itoa(i+1))
		}
		l = append(l, api.Frag{Name: "f" + strconv.Itoa(i), On: "Query", Sels: sels})
	}
	return l
}

// Many fragments in a row, one by one or round; and many, each of which leads to all others.
func TestLongChains(t *testing.T) {
	const many = 100000
	defs := roots(api.In{Name: "a", Type: api.Ref{Name: "Int"}})
	use := argument(variable("x")).Ops[0].Sels
	op := api.Op{Sels: spreads("f0")}
	with := func(of string) api.Op {
		return api.Op{Vars: []api.Var{{Name: "x", Type: api.Ref{Name: of}}}, Sels: op.Sels}
	}
	for _, l := range [][]api.Frag{chain(many, use...), chain(many, append(spreads("f0"), use...)...), chain(many, append(spreads("f99999", "x"), use...)...)} {
		tells(t, api.Doc{Ops: []api.Op{op}, Frags: l}, defs, 136)
		tells(t, api.Doc{Ops: []api.Op{with("Int")}, Frags: l}, defs)
		tells(t, api.Doc{Ops: []api.Op{with("Boolean")}, Frags: l}, defs, 138)
		slices.Reverse(l)
		tells(t, api.Doc{Ops: []api.Op{op, with("Int")}, Frags: l}, defs, 136)
		tells(t, api.Doc{Ops: []api.Op{with("Int")}, Frags: l[1:]}, defs, 137)
	}
	var names []string
	for i := range 700 {
		names = append(names, "f"+strconv.Itoa(i))
	}
	all := chain(len(names), use...)
	for i := range all {
		all[i].Sels = append(all[i].Sels, spreads(names...)...)
	}
	tells(t, api.Doc{Ops: []api.Op{op}, Frags: all}, defs, 136)
	tells(t, api.Doc{Ops: []api.Op{with("Int")}, Frags: all}, defs)
	tells(t, api.Doc{Ops: []api.Op{with("ID")}, Frags: all}, defs, 138)
}

// Many variables, arguments, names, values, definitions, operations.
func TestLong(t *testing.T) {
	const many = 100000
	var vars []api.Var
	var args []api.Arg
	var ins []api.In
	var ops []api.Op
	var wide api.Value
	list := api.Value{Kind: api.ValList}
	wide.Kind = api.ValObject
	enum := api.Def{Name: "E", Kind: api.DefEnum}
	for i := range many {
		name := "a" + strconv.Itoa(i)
		vars = append(vars, api.Var{Name: name, Type: api.Ref{Name: "Int"}})
		args = append(args, api.Arg{Name: name, Value: variable(name)})
		ins = append(ins, api.In{Name: name, Type: api.Ref{Name: "Int"}})
		ops = append(ops, api.Op{Name: name, Vars: []api.Var{{Name: "x", Type: api.Ref{Name: "Int"}}}, Sels: spreads("f")})
		wide.Names = append(wide.Names, name)
		wide.List = append(wide.List, variable(name))
		list.List = append(list.List, variable(name))
		enum.Words = append(enum.Words, name)
	}
	defs := roots(ins...)
	full := api.Op{Vars: vars, Sels: []api.Sel{{Name: "q", Args: args}}}
	doc := func(o api.Op) api.Doc { return api.Doc{Ops: []api.Op{o}} }
	tells(t, doc(full), defs)
	tells(t, doc(api.Op{Vars: vars[1:], Sels: full.Sels}), defs, 136)
	tells(t, doc(api.Op{Vars: append(vars, vars[7]), Sels: full.Sels}), defs, 134)
	tells(t, doc(api.Op{Vars: append(vars, api.Var{Type: api.Ref{Name: "Int"}}), Sels: full.Sels}), defs, 137)
	tells(t, doc(api.Op{Vars: vars, Sels: []api.Sel{{Name: "q", Args: args[1:]}}}), defs, 137)
	other := slices.Clone(vars)
	other[many-1].Type.Name = "ID"
	tells(t, doc(api.Op{Vars: other, Sels: full.Sels}), defs, 138)
	other[many-1].Type.Name = "Query"
	tells(t, doc(api.Op{Vars: other, Sels: full.Sels}), defs, 135, 138)

	input := append(roots(api.In{Name: "a", Type: api.Ref{Name: "I", Wraps: "["}}), api.Def{Name: "I", Kind: api.DefInput, Ins: ins}, enum)
	at := func(v api.Value) api.Doc { return doc(api.Op{Vars: vars, Sels: argument(v).Ops[0].Sels}) }
	tells(t, at(wide), input)
	double := wide
	double.Names = append(slices.Clip(wide.Names), "a7")
	double.List = append(slices.Clip(wide.List), api.Value{})
	tells(t, at(double), input, 132)
	double.Names[many] = "x"
	tells(t, at(double), input, 131)
	double.Names[many] = "a7"
	double.List[many] = api.Value{Kind: api.ValTrue}
	tells(t, at(double), input, 130, 132)
	tells(t, at(list), input, 138)
	tells(t, at(api.Value{Kind: api.ValList, List: slices.Repeat([]api.Value{object()}, many)}), roots(), 137)

	f := []api.Frag{{Name: "f", On: "Query", Sels: argument(variable("x")).Ops[0].Sels}}
	tells(t, api.Doc{Ops: ops, Frags: f}, roots(api.In{Name: "a", Type: api.Ref{Name: "Int"}}))
	tells(t, api.Doc{Ops: append(ops, api.Op{Sels: spreads("f")}), Frags: f}, nil, 135, 136)
	words := api.Value{Kind: api.ValList, List: slices.Repeat([]api.Value{{Kind: api.ValEnum, Text: "a9"}}, many)}
	if !values.Fits(words, api.Ref{Name: "E", Wraps: "!["}, input) {
		t.Error("a word of many does not fit")
	}
	words.List[many-1].Text = "x"
	if values.Fits(words, api.Ref{Name: "E", Wraps: "!["}, input) {
		t.Error("what is no word of many fits")
	}
}
