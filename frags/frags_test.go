package frags_test

import (
	"fmt"
	"reflect"
	"slices"
	"testing"

	"rhizome/api"
	"rhizome/frags"
	"rhizome/gen"
	"rhizome/sdl"
	"rhizome/syntax"
)

// copied is a value in memory of its own, with room behind each list; a list that is not there is empty.
func copied[T any](x T) T {
	var y T
	copyInto(reflect.ValueOf(&y).Elem(), reflect.ValueOf(x))
	return y
}

func copyInto(to, from reflect.Value) {
	switch from.Kind() {
	case reflect.Slice:
		to.Set(reflect.MakeSlice(from.Type(), from.Len(), from.Len()+2))
		for i := range from.Len() {
			copyInto(to.Index(i), from.Index(i))
		}
	case reflect.Struct:
		for i := range from.NumField() {
			copyInto(to.Field(i), from.Field(i))
		}
	default:
		to.Set(from)
	}
}

// blank: is nothing in the room behind each list?
func blank(v reflect.Value) bool {
	switch v.Kind() {
	case reflect.Slice:
		all := v.Slice(0, v.Cap())
		for i := range all.Len() {
			if i < v.Len() && !blank(all.Index(i)) || i >= v.Len() && !all.Index(i).IsZero() {
				return false
			}
		}
	case reflect.Struct:
		for i := range v.NumField() {
			if !blank(v.Field(i)) {
				return false
			}
		}
	}
	return true
}

// short is how a test writes a value that may be long.
func short(x any) string { return fmt.Sprintf("%.2000s", fmt.Sprint(x)) }

// types are the definitions of a schema's text.
func types(t *testing.T, text string) []api.Def {
	t.Helper()
	s, at, e := sdl.Parse(text)
	if e != api.OK {
		t.Fatalf("%q: %d at %d", text, e, at)
	}
	defs, e := gen.Types(s)
	if e != api.OK {
		t.Fatalf("%q: %d", text, e)
	}
	return defs
}

// read is the tree of a text.
func read(t *testing.T, text string) api.Doc {
	t.Helper()
	d, at, e := syntax.Parse(text)
	if e != api.OK {
		t.Fatalf("%q: %d at %d", text, e, at)
	}
	return d
}

// checks holds Check against the model, and tells what it answers.
func checks(t *testing.T, d api.Doc, defs []api.Def) []api.Errno {
	t.Helper()
	l := frags.Check(d, defs)
	if want := modelCheck(d, defs); !slices.Equal(l, want) {
		t.Errorf("%s\nof %s:\n%v, not %v", short(d), short(defs), l, want)
	}
	return l
}

// breaks holds Check of a tree against rules.
func breaks(t *testing.T, d api.Doc, defs []api.Def, rules ...api.Errno) {
	t.Helper()
	d, defs = copied(d), copied(defs)
	oldDoc, oldDefs := copied(d), copied(defs)
	if l := checks(t, d, defs); !slices.Equal(l, rules) {
		t.Errorf("%s: %v, not %v", short(d), l, rules)
	}
	if !reflect.DeepEqual(d, oldDoc) || !blank(reflect.ValueOf(d)) {
		t.Errorf("%s: was changed to %s", short(oldDoc), short(d))
	}
	if !reflect.DeepEqual(defs, oldDefs) || !blank(reflect.ValueOf(defs)) {
		t.Errorf("%s: was changed to %s", short(oldDefs), short(defs))
	}
}

// says holds Check of each text against rules.
func says(t *testing.T, defs []api.Def, rules []api.Errno, texts ...string) {
	t.Helper()
	for _, text := range texts {
		breaks(t, read(t, text), defs, rules...)
		if t.Failed() {
			t.Fatalf("%q", text)
		}
	}
}

// no: nothing is broken.
var no []api.Errno

func of(rules ...api.Errno) []api.Errno { return rules }

const (
	chapter = "type T{a:Int! b:[T!]!}"
	wide    = "enum E{A} type T{a:Int! e:E b:[T!]! u:U} type U{c:Float t:T us:[U!]!}"
)

// P12.1: the chapter's examples.
func TestExamples(t *testing.T) {
	defs := types(t, chapter)
	says(t, defs, no, "{queryT{...f}} fragment f on T{a}")
	says(t, defs, of(124), "{queryT{...f}}")
	says(t, defs, of(123), "{queryT{a}} fragment f on T{a}")
	says(t, defs, of(121), "{...f} fragment f on Nope{a}")
	says(t, defs, of(125), "{queryT{...f}} fragment f on T{b{...g}} fragment g on T{...f}")
	says(t, defs, of(126), "{...f} fragment f on T{a}", "{queryT{... on Query{getT(id:1){a}}}}")
	says(t, defs, of(122), "{queryT{... on Int{x}}}")
}

func TestErrors(t *testing.T) {
	l := []api.Errno{api.ErrFragTwice, api.ErrFragType, api.ErrFragKind, api.ErrFragUnused, api.ErrFragNone, api.ErrFragCycle, api.ErrFragSpread}
	for i, e := range l {
		if e != api.Errno(120+i) {
			t.Errorf("%d is %d", 120+i, e)
		}
	}
}

// Without fragments.
func TestNoFrags(t *testing.T) {
	defs := types(t, wide)
	says(t, defs, no, "{queryT{a b{a}}}", "{queryT{a}} query x{queryU{c}} mutation y{deleteT(filter:{})}", "subscription{a{b}}", "{nope{nope}}", "{queryT{...{a}}}", "{...{...{queryT{...{a}}}}}", "{queryT{...on T{a}}}")
	for _, d := range []api.Doc{{}, {Ops: []api.Op{}, Frags: []api.Frag{}}, {Ops: []api.Op{{}}}, {Ops: []api.Op{{Kind: -1}, {Kind: 9}}}} {
		breaks(t, d, defs)
		breaks(t, d, nil)
		breaks(t, d, []api.Def{{}, {}})
	}
}

// P12.1, ErrFragTwice

func TestTwice(t *testing.T) {
	defs := types(t, wide)
	says(t, defs, no, "{queryT{...f ...g}} fragment f on T{a} fragment g on T{a}", "{queryT{...f ...F}} fragment f on T{a} fragment F on T{a}", "query f{queryT{...f f:a}} fragment f on T{a}", "{queryT{...T}} fragment T on T{a}")
	says(t, defs, of(120),
		"{queryT{...f}} fragment f on T{a} fragment f on T{a}", "{queryT{...f}} fragment f on T{a} fragment f on T{b{a}}",
		"{queryT{...f}} fragment f on T{a} fragment f on T{a} fragment f on T{a}",
		"{queryT{...f ...g}} fragment f on T{a} fragment g on T{a} fragment f on T{e}", "{queryT{...f ...g}} fragment g on T{a} fragment f on T{a} fragment f on T{e}")
	// No text has such names, but trees may.
	for _, name := range []string{"", " ", "a\x00", "\xff", "on", "é"} {
		d := func(names ...string) api.Doc {
			var d api.Doc
			var l []api.Sel
			for _, x := range names {
				d.Frags = append(d.Frags, api.Frag{Name: x, On: "Query"})
				l = append(l, api.Sel{Kind: api.SelSpread, Name: x})
			}
			d.Ops = []api.Op{{Sels: l}}
			return d
		}
		breaks(t, d(name), defs)
		breaks(t, d(name, name+" "), defs)
		breaks(t, d(name, name), defs, 120)
		breaks(t, d(name, name+"x", name), defs, 120)
		breaks(t, d(name+"x", name, name, name), defs, 120)
	}
}

// Of several fragments of one name the first is meant by spreads, but each is asked what holds of all.
func TestTwiceFirst(t *testing.T) {
	defs := types(t, wide)
	// Where a spread may stand hangs on the first one's On.
	says(t, defs, of(120), "{queryT{...f}} fragment f on T{a} fragment f on U{c}", "{queryT{...f}} fragment f on T{a} fragment f on U{c} fragment f on Query{__typename}")
	says(t, defs, of(120, 126), "{queryT{...f}} fragment f on U{c} fragment f on T{a}")
	// A later one that leads to itself, or back to itself, leads to the first one.
	says(t, defs, of(120), "{queryT{...f}} fragment f on T{a} fragment f on T{...f}", "{queryT{...f}} fragment f on T{a} fragment f on T{b{...{...f}}}",
		"{queryT{...f ...g}} fragment f on T{a} fragment g on T{a} fragment f on T{...g}", "{queryT{...f ...g}} fragment f on T{a} fragment g on T{...f} fragment f on T{...g}", "{queryT{...g}} fragment f on T{a} fragment f on T{...f} fragment g on T{...f}")
	says(t, defs, of(120, 125), "{queryT{...f}} fragment f on T{...f} fragment f on T{a}", "{queryT{...f ...g}} fragment f on T{...g} fragment g on T{...f} fragment f on T{a} fragment g on T{a}")
	// Such a one leads into a cycle without being in it.
	says(t, defs, of(120, 125), "{queryT{...f ...g}} fragment f on T{a} fragment f on T{...g} fragment g on T{...g}")
	// Every one has a condition, spreads, and inline fragments.
	says(t, defs, of(120, 121), "{queryT{...f}} fragment f on T{a} fragment f on Nope{a}", "{queryT{...f}} fragment f on Nope{a} fragment f on T{a}", "{queryT{...f}} fragment f on T{a} fragment f on T{a} fragment f on Nope{a}", "{queryT{...f}} fragment f on T{a} fragment f on T{...on Nope{a}}")
	says(t, defs, of(120, 122), "{queryT{...f}} fragment f on T{a} fragment f on Int{a}")
	says(t, defs, of(120, 124), "{queryT{...f}} fragment f on T{a} fragment f on T{...g}")
	says(t, defs, of(120, 126), "{queryT{...f}} fragment f on T{a} fragment f on T{...on U{c}}", "{queryT{...f}} fragment f on T{a} fragment f on U{...f}")
	says(t, defs, of(120, 123), "{queryT{a}} fragment f on T{a} fragment f on T{a}")
	// What only a later one spreads is spread.
	says(t, defs, of(120), "{queryT{...f}} fragment f on T{a} fragment f on T{...g} fragment g on T{a}", "{queryT{a}} fragment f on T{a} fragment f on T{...f}")
}

// P12.1, ErrFragType, ErrFragKind

func TestConditions(t *testing.T) {
	defs := types(t, wide)
	says(t, defs, no, "{queryT{...on T{a}}}", "{...on Query{queryT{a}}}", "mutation{...on Mutation{deleteT(filter:{})}}", "{queryT{...f}} fragment f on T{a}", "{...f} fragment f on Query{__typename}", "{nope{...on U{c}}}")
	says(t, defs, of(121),
		"{...on Nope{a}}", "{queryT{...on t{a}}}", "{queryT{...on Nope{a{b}}}}", "{nope{nope{...on Nope{a}}}}", "{...{...{...on Nope{a}}}}", "{... on Nope{...on Nope{a}}}", "{...on Nope{...{a}}}", "subscription{...on Subscription{a}}",
		"{...f} fragment f on Nope{a}", "{...f ...g} fragment f on Query{__typename} fragment g on Nope{x}", "{...f} fragment f on Query{queryT{b{...on Nope{x}}}}", "{...f} fragment f on Nope{...on Nope{x}}", "{queryT{...f}} fragment f on TT{a}", "{queryT{...on a{a}}}", "{queryT{...on f{a}...f}} fragment f on T{a}")
	says(t, defs, of(122),
		"{...on Int{a}}", "{...on String{a}}", "{...on E{a}}", "{...on AddT{a}}", "{...on TFilter{a}}", "{queryT{...on Float{a}}}", "{queryT{...on ID{...{x}}}}", "{nope{...on Boolean{a}}}",
		"{...f} fragment f on Int{a}", "{...f} fragment f on E{A}", "{...f} fragment f on UFilter{and}", "{queryT{a{...on Int{x}}}}", "{queryT{a{...f}}} fragment f on Int{x}", "{...f} fragment f on Query{...on Int{x}}", "{...on Int{...on Int{x}}}")
	says(t, defs, of(121, 122), "{...on Nope{...on Int{a}}}", "{...on Int{...on Nope{a}}}", "{...f ...on Nope{a}} fragment f on Int{x}", "{...f ...g} fragment f on Int{x} fragment g on Nope{a}")
	// Where nothing is a condition.
	says(t, defs, no, "{...{a}}", "{...@skip(if:true){a}}", "{...on Query{...{a ...{b}}}}", "{Nope Int{Nope}}", "query Nope{Int:__typename}", "{queryT{...Int}} fragment Int on T{a}", "{queryT{...Nope}} fragment Nope on T{a}")
}

// inline is an inline fragment, alone in a query.
func inline(on string, l ...api.Sel) api.Doc {
	return api.Doc{Ops: []api.Op{{Sels: []api.Sel{{Kind: api.SelInline, On: on, Sels: l}}}}}
}

// spread is a query that spreads fragment f.
func spread(l ...api.Frag) api.Doc {
	return api.Doc{Ops: []api.Op{{Sels: []api.Sel{{Kind: api.SelSpread, Name: "f"}}}}, Frags: l}
}

// Definitions of any kind, and more than one of a name.
func TestConditionsDefs(t *testing.T) {
	for kind := -3; kind <= api.DefKinds+3; kind++ {
		rules := of(122)
		switch {
		case kind < 0:
			rules = of(121)
		case kind == api.DefObject:
			rules = no
		}
		for _, name := range []string{"T", "Int", "é", " "} {
			check := func(rules []api.Errno, defs ...api.Def) {
				t.Helper()
				breaks(t, inline(name), defs, rules...)
				breaks(t, inline(name, api.Sel{Kind: api.SelInline}), defs, rules...)
				breaks(t, spread(api.Frag{Name: "f", On: name}), defs, rules...)
			}
			x := api.Def{Name: name, Kind: kind}
			check(rules, x)
			check(of(121))
			check(of(121), api.Def{Name: name + "x", Kind: kind}, api.Def{Name: "", Kind: kind}, api.Def{Name: "f", Kind: kind})
			// The first of a name counts, also if it counts as none.
			for other := -1; other <= api.DefKinds; other++ {
				check(rules, x, api.Def{Name: name, Kind: other})
				check(rules, api.Def{Name: "x", Kind: other}, x, api.Def{Name: name, Kind: other}, x)
			}
		}
	}
}

// An inline fragment may have no condition; a fragment always has one, though it be empty, as no text's is.
func TestEmptyCondition(t *testing.T) {
	for kind := -1; kind <= api.DefKinds; kind++ {
		nameless := api.Def{Kind: kind}
		breaks(t, inline(""), []api.Def{nameless})
		breaks(t, inline("", api.Sel{Kind: api.SelInline}), []api.Def{nameless})
		breaks(t, inline("", api.Sel{Kind: api.SelInline}), []api.Def{{Name: "Query", Kind: kind}, nameless})
		rules := of(122)
		switch kind {
		case -1:
			rules = of(121)
		case api.DefObject:
			rules = no
		}
		breaks(t, spread(api.Frag{Name: "f"}), []api.Def{nameless}, rules...)
	}
	breaks(t, inline(""), nil)
	breaks(t, spread(api.Frag{Name: "f"}), nil, 121)
	breaks(t, spread(api.Frag{Name: "f"}), []api.Def{{Name: "Query", Kind: api.DefObject}}, 121)
	breaks(t, spread(api.Frag{Name: "f"}), []api.Def{{Name: "Query", Kind: api.DefObject}, {Kind: api.DefObject}}, 126)
}

// Only fragments and inline fragments have conditions: On stands in trees where no text has it.
func TestOnAnywhere(t *testing.T) {
	defs := types(t, chapter)
	for kind := -2; kind <= api.SelKinds+2; kind++ {
		for _, on := range []string{"Nope", "Int", "T"} {
			x := api.Sel{Kind: kind, Name: "f", On: on}
			d := api.Doc{Ops: []api.Op{{Sels: []api.Sel{x}}}, Frags: []api.Frag{{Name: "f", On: "Query", Sels: []api.Sel{{Kind: api.SelField, Name: "x", On: on}}}}}
			used := api.Op{Sels: []api.Sel{{Kind: api.SelSpread, Name: "f"}}}
			d.Ops = append(d.Ops, used)
			if kind == api.SelInline {
				breaks(t, d, defs, map[string]api.Errno{"Nope": 121, "Int": 122, "T": 126}[on])
			} else {
				breaks(t, d, defs)
			}
		}
	}
}

// P12.1, ErrFragUnused, ErrFragNone

func TestUnused(t *testing.T) {
	defs := types(t, wide)
	says(t, defs, no,
		"{queryT{...f}} fragment f on T{a}", "{queryT{...f ...f ...f}} fragment f on T{a}", "{queryT{...f}} query b{queryT{...g}} fragment f on T{a} fragment g on T{a}",
		"mutation{addT(input:[]){...f}} fragment f on T{a}", "{queryT{...{b{...on T{u{t{...{...f}}}}}}}} fragment f on T{a}",
		"{queryT{...f}} fragment f on T{b{...g}} fragment g on T{a}", "subscription{x{...f}} fragment f on T{a}", "{nope{...f}} fragment f on T{a}", "{queryT{a{...f}}} fragment f on T{a}")
	says(t, defs, of(123),
		"{queryT{a}} fragment f on T{a}", "{queryT{f}} fragment f on T{a}", "{queryT{f:a}} fragment f on T{a}", "query f{queryT{a}} fragment f on T{a}", "{queryT{...on T{a}}} fragment T on T{a}",
		"{queryT{...g}} fragment f on T{a} fragment g on T{a}", "{queryT{...f}} fragment f on T{a} fragment g on T{...f}", "{queryT{a}} fragment f on T{a} fragment g on T{...f}", "{queryT{a(f:f)@f(f:$f)}} fragment f on T{a}")
	says(t, defs, of(123, 124), "{queryT{...g}} fragment f on T{a}", "{queryT{...F}} fragment f on T{a}", "{queryT{a}} fragment f on T{...g}")
	// A spread within itself is one, and so is one in a fragment that no spread has.
	says(t, defs, of(125), "{queryT{a}} fragment f on T{...f}", "{queryT{a}} fragment f on T{...g} fragment g on T{...f}", "{queryT{a}} fragment f on T{b{...on T{...{...f}}}}")
	says(t, defs, of(123), "{queryT{a}} fragment f on T{a} fragment g on T{b{...f}}", "{queryT{a}} fragment f on T{a} fragment g on T{...f} fragment h on T{...g}")
	says(t, defs, of(123, 125), "{queryT{a}} fragment f on T{...f} fragment g on T{a}")
	breaks(t, api.Doc{Frags: []api.Frag{{}}}, []api.Def{{Kind: api.DefObject}}, 123)
	breaks(t, api.Doc{Frags: []api.Frag{{Sels: []api.Sel{{}}}}}, []api.Def{{Kind: api.DefObject}}, 123)
	breaks(t, api.Doc{Ops: []api.Op{{Kind: 7, Sels: []api.Sel{{Kind: api.SelSpread}}}}, Frags: []api.Frag{{}}}, []api.Def{{Kind: api.DefObject}})
}

func TestNone(t *testing.T) {
	defs := types(t, wide)
	says(t, defs, no, "{queryT{...f}} fragment f on T{a}", "{queryT{...f ...g}} fragment f on T{...g} fragment g on T{a}", "{queryT{...F}} fragment F on T{a}")
	says(t, defs, of(124),
		"{...f}", "{queryT{...f}}", "{queryT{...f ...g}} fragment f on T{a}", "{queryT{...f ...F}} fragment f on T{a}", "{queryT{...f}} fragment f on T{...g}", "{queryT{b{...{...on T{...f}}}}}", "mutation{...f}", "subscription{...f}", "{nope{...f}}", "{queryT{a{...f}}}",
		"{queryT{...T}}", "query f{...f}", "{queryT{f ...f}}", "{queryT{...f}} query b{queryT{...g}} fragment f on T{a}", "{queryT{...a}}", "{queryT{...skip}}")
	// No text has such names.
	for _, name := range []string{"", "\x00", "on", "f "} {
		x := api.Sel{Kind: api.SelSpread, Name: name}
		breaks(t, api.Doc{Ops: []api.Op{{Sels: []api.Sel{x}}}}, defs, 124)
		breaks(t, api.Doc{Ops: []api.Op{{Sels: []api.Sel{x}}}, Frags: []api.Frag{{Name: name, On: "Query"}}}, defs)
		breaks(t, api.Doc{Ops: []api.Op{{Sels: []api.Sel{x}}}, Frags: []api.Frag{{Name: name + "x", On: "Query"}}}, defs, 123, 124)
	}
}

// What is a spread hangs on the selection's Kind alone.
func TestSpreadKinds(t *testing.T) {
	defs := types(t, chapter)
	for kind := -2; kind <= api.SelKinds+2; kind++ {
		x := api.Sel{Kind: kind, Name: "f"}
		alone, within := no, of(123)
		if kind == api.SelSpread {
			alone, within = of(124), no
		}
		breaks(t, api.Doc{Ops: []api.Op{{Sels: []api.Sel{x}}}}, defs, alone...)
		breaks(t, api.Doc{Ops: []api.Op{{Sels: []api.Sel{x}}}, Frags: []api.Frag{{Name: "f", On: "Query"}}}, defs, within...)
		if kind == api.SelSpread {
			within = of(125)
		}
		breaks(t, api.Doc{Frags: []api.Frag{{Name: "f", On: "Query", Sels: []api.Sel{x}}}}, defs, within...)
	}
}

// What stands within a spread, or within a selection of no such Kind, is looked at, in a set without a parent.
func TestWithinSpreads(t *testing.T) {
	defs := types(t, chapter)
	inner := func(kind int, l ...api.Sel) api.Doc {
		x := api.Sel{Kind: kind, Name: "q", On: "Query", Sels: l}
		return api.Doc{Ops: []api.Op{{Sels: []api.Sel{x, {Kind: api.SelSpread, Name: "q"}}}}, Frags: []api.Frag{{Name: "q", On: "Query"}}}
	}
	f, g := api.Sel{Kind: api.SelSpread, Name: "f"}, api.Sel{Kind: api.SelSpread, Name: "g"}
	for _, kind := range []int{api.SelSpread, -1, api.SelKinds, 99} {
		breaks(t, inner(kind), defs)
		breaks(t, inner(kind, f), defs, 124)
		breaks(t, inner(kind, api.Sel{Kind: api.SelInline, On: "Nope"}), defs, 121)
		breaks(t, inner(kind, api.Sel{Kind: api.SelInline, On: "Int"}), defs, 122)
		breaks(t, inner(kind, api.Sel{Kind: api.SelInline, On: "T"}), defs)
		breaks(t, inner(kind, api.Sel{Kind: api.SelInline, Sels: []api.Sel{{Kind: api.SelInline, On: "T"}}}), defs)
		breaks(t, inner(kind, api.Sel{Kind: api.SelInline, On: "T", Sels: []api.Sel{{Kind: api.SelInline, On: "Query"}}}), defs, 126)
		breaks(t, inner(kind, api.Sel{Name: "queryT", Sels: []api.Sel{{Kind: api.SelInline, On: "Query"}}}), defs)
		d := inner(kind, f, api.Sel{Kind: kind, Sels: []api.Sel{g}})
		if kind == api.SelSpread {
			d.Ops[0].Sels[0].Sels[1].Name = "q"
		}
		d.Frags = append(d.Frags, api.Frag{Name: "f", On: "T"}, api.Frag{Name: "g", On: "Mutation"})
		breaks(t, d, defs)
		breaks(t, d, nil, 121)
		// A fragment leads to what is spread there, too.
		d.Frags[1].Sels = []api.Sel{{Kind: kind, Name: "q", Sels: []api.Sel{g}}}
		rules := no
		if kind == api.SelSpread {
			rules = of(126) // of q in f's own set
		}
		breaks(t, d, defs, rules...)
		d.Frags[1].Sels[0].Sels[0].Name = "f"
		d.Frags[0].On, d.Frags[1].On = "Query", "Query"
		breaks(t, d, defs, 125)
	}
}

// P12.1, ErrFragCycle

func TestCycle(t *testing.T) {
	defs := types(t, wide)
	says(t, defs, no,
		"{queryT{...f}} fragment f on T{a}", "{queryT{...f}} fragment f on T{...g} fragment g on T{a}", "{queryT{...f}} fragment f on T{...g ...g b{...g}} fragment g on T{a}",
		"{queryT{...f}} fragment f on T{...g ...h} fragment g on T{...i} fragment h on T{...i} fragment i on T{a}", "{queryT{...i}} fragment g on T{...f} fragment h on T{...f} fragment f on T{a} fragment i on T{...g ...h}",
		"{queryT{...f f:b{a}}} fragment f on T{f:a b{f:a}}", "query f{queryT{...f}} fragment f on T{a}", "{queryT{...f}} fragment f on T{...on T{a}}", "{queryT{...T}} fragment T on T{...on T{a}}")
	says(t, defs, of(125),
		"{queryT{...f}} fragment f on T{...f}", "{queryT{...f}} fragment f on T{a ...f a}", "{queryT{...f}} fragment f on T{b{b{b{...f}}}}", "{queryT{...f}} fragment f on T{...{...on T{b{...{...f}}}}}",
		"{queryT{...f}} fragment f on T{...g} fragment g on T{...f}", "{queryT{...g}} fragment f on T{...g} fragment g on T{...f}", "{queryT{...f}} fragment f on T{...g ...f} fragment g on T{a}", "{queryT{...f}} fragment f on T{...g} fragment g on T{...g}",
		"{queryT{...f}} fragment f on T{...g} fragment g on T{...h} fragment h on T{...f}", "{queryT{...f}} fragment f on T{...g} fragment g on T{...h} fragment h on T{...g}", "{queryT{...f}} fragment h on T{...g} fragment g on T{b{...h}} fragment f on T{a ...g}",
		"{queryT{...f}} fragment f on T{a u{...g}} fragment g on U{t{...f}}", "{queryT{...f ...h}} fragment f on T{...f} fragment g on T{a} fragment h on T{...g}",
		"{queryT{...a ...b}} fragment a on T{...c} fragment b on T{...c} fragment c on T{...d ...e} fragment d on T{a} fragment e on T{...c}")
	// Cycles in what nothing spreads, or what no operation reaches.
	says(t, defs, of(123, 125), "{queryT{a}} fragment f on T{...g} fragment g on T{...g}", "{queryT{a}} fragment f on T{...g} fragment g on T{...h} fragment h on T{...g}")
	says(t, defs, of(124, 125), "{queryT{...f}} fragment f on T{...g ...f}")
	// Names that no fragment has lead nowhere.
	says(t, defs, of(124), "{queryT{...f}} fragment f on T{...g}", "{queryT{...f ...h}} fragment f on T{...g} fragment h on T{...g}")
	breaks(t, api.Doc{Frags: []api.Frag{{Name: "f", On: "T", Sels: []api.Sel{{Kind: api.SelSpread, Name: "f"}}}}}, nil, 121, 125)
	breaks(t, api.Doc{Frags: []api.Frag{{Sels: []api.Sel{{Kind: api.SelSpread}}}}}, nil, 121, 125)
}

// P12.1, ErrFragSpread

func TestSpread(t *testing.T) {
	defs := types(t, wide)
	says(t, defs, no,
		"{queryT{...on T{a}}}", "{queryT{...on T{...on T{a}}}}", "{...on Query{queryT{b{...on T{u{...on U{c}}}}}}}", "mutation{...on Mutation{addU(input:[]){...on U{c}}}}",
		"{queryT{...f}} fragment f on T{...g} fragment g on T{u{...h}} fragment h on U{t{...i}} fragment i on T{a}", "{...f} mutation b{...g} fragment f on Query{__typename} fragment g on Mutation{__typename}",
		"{queryT{...{...on T{a}}}}", "{queryT{...{...f}}} fragment f on T{a}", "{queryT{...on T{...{...{...on T{a}}}}}}")
	says(t, defs, of(126),
		"{...on T{a}}", "{...on Mutation{a}}", "{queryT{...on U{c}}}", "{queryT{...on Query{a}}}", "{queryT{u{...on T{a}}}}", "{queryT{b{...on U{c}}}}", "mutation{...on Query{a}}", "mutation{updateT(filter:{},set:{}){...on U{c}}}",
		"{...{...on T{a}}}", "{queryT{...{...{...on U{c}}}}}", "{queryT{...on T{...on U{c}}}}", "{queryT{...on T{...{...on U{c}}}}}", "{...on Query{...on T{a}}}", "{queryT{...on U{...on U{c}}}}",
		"{...f} fragment f on T{a}", "{queryT{...f}} fragment f on U{c}", "{queryT{...{...f}}} fragment f on U{c}", "{queryT{...f}} fragment f on T{...g} fragment g on U{c}", "{queryT{...f}} fragment f on T{...on Query{x}}",
		"{queryT{...f} queryU{...f}} fragment f on T{a}", "{queryT{...f}} query b{queryU{...f}} fragment f on T{a}", "{queryT{...f}} mutation{...f} fragment f on T{a}")
	says(t, defs, of(125, 126), "{queryT{...f}} fragment f on T{u{...f}}", "{queryU{...g}} fragment g on T{b{...g}}")
	// Where the parent has no definition, or one that is no object, nothing is told, nor where the condition has.
	says(t, defs, no, "{nope{...on T{a}}}", "{nope{...f}} fragment f on T{a}", "{queryT{nope{...{...on U{a}}}}}", "subscription{...on T{a} ...on U{c}}", "subscription{...f} fragment f on T{a}", "{queryT{a{...on T{a}}}}", "{queryT{e{...f}}} fragment f on U{c}", "{__typename{...on T{a}}}")
	says(t, defs, of(121), "{queryT{...on Nope{a}}}", "{...on Nope{...on T{a}}}", "{queryT{...f}} fragment f on Nope{...on T{a}}", "{queryT{...f}} fragment f on Nope{x}", "{...on Nope{...{...on U{c}}}}", "{...on Nope{...f}} fragment f on T{a}")
	says(t, defs, of(122), "{queryT{...on Int{a}}}", "{...on Int{...on T{a}}}", "{queryT{...f}} fragment f on E{...on T{a}}", "{...on AddT{...f}} fragment f on T{a}")
	says(t, defs, of(121, 126), "{...on Nope{...on T{...on U{c}}}}", "{...on Nope{...on T{...{...on Query{c}}}}}")
	says(t, defs, of(124), "{...f}", "{queryT{...f}}")
}

// Of any kinds of definitions, and of more than one of a name.
func TestSpreadDefs(t *testing.T) {
	for a := -2; a <= api.DefKinds+1; a++ {
		for b := -2; b <= api.DefKinds+1; b++ {
			defs := []api.Def{{Name: "A", Kind: a}, {Name: "B", Kind: b}}
			d := api.Doc{Frags: []api.Frag{{Name: "f", On: "A", Sels: []api.Sel{{Kind: api.SelInline, On: "B"}}}}}
			e := api.Doc{Frags: []api.Frag{{Name: "f", On: "A", Sels: []api.Sel{{Kind: api.SelSpread, Name: "g"}}}, {Name: "g", On: "B"}}}
			want := a == api.DefObject && b == api.DefObject
			for _, x := range []api.Doc{d, e} {
				l := checks(t, x, defs)
				if told := slices.Contains(l, api.ErrFragSpread); told != want {
					t.Errorf("%d, %d: %v", a, b, l)
				}
				l = checks(t, x, append(slices.Clip(defs), api.Def{Name: "A", Kind: api.DefObject}, api.Def{Name: "B", Kind: api.DefObject}))
				if told := slices.Contains(l, api.ErrFragSpread); told != want {
					t.Errorf("%d, %d: %v", a, b, l)
				}
			}
		}
	}
	object := api.Def{Name: "A", Kind: api.DefObject, Outs: []api.Out{{Name: "x", Type: api.Ref{Name: "B"}}, {Name: "x", Type: api.Ref{Name: "A"}}}}
	defs := []api.Def{object, {Name: "B", Kind: api.DefObject}, {Name: "A", Kind: api.DefObject}}
	for on, rules := range map[string][]api.Errno{"A": of(123, 126), "B": of(123)} {
		breaks(t, api.Doc{Frags: []api.Frag{{Name: "f", On: "A", Sels: []api.Sel{{Name: "x", Sels: []api.Sel{{Kind: api.SelInline, On: on}}}}}}}, defs, rules...)
	}
}

// A definition without a name is one as others are: it is that of an empty parent.
func TestEmptyParent(t *testing.T) {
	defs := []api.Def{{Name: "T", Kind: api.DefObject}, {Kind: api.DefObject}}
	for _, kind := range []int{-1, api.OpSubscription, api.OpKinds} {
		d := inline("T")
		d.Ops[0].Kind = kind
		breaks(t, d, defs, 126)
		breaks(t, d, defs[:1])
		d = spread(api.Frag{Name: "f", On: "T"})
		d.Ops[0].Kind = kind
		breaks(t, d, defs, 126)
		breaks(t, d, defs[:1])
		d = spread(api.Frag{Name: "f"})
		d.Ops[0].Kind = kind
		breaks(t, d, defs)
	}
}

// P12.1: several rules at once are told by rising numbers, each once.
func TestAll(t *testing.T) {
	defs := types(t, wide)
	says(t, defs, of(120, 121, 122, 123, 124, 125, 126),
		"{...on Int{a} ...on Nope{a} ...on T{a} ...x ...f} fragment f on Query{...f} fragment g on T{a} fragment g on T{b}",
		"{...x ...x ...f} fragment g on Int{...on Int{a}} fragment f on T{b{...f}} fragment g on Nope{...on Nope{a}} fragment f on T{b{...f}}",
		"{...x ...y ...f queryT{...on Query{a} ...on U{c}}} fragment f on Nope{...f ...g} fragment f on Nope{...f} fragment g on Int{...f} fragment h on Int{a} fragment h on E{a}")
	says(t, defs, of(120, 122, 124, 126), "{...f ...x ...on T{...on Int{a}}} fragment f on T{a} fragment f on T{a}")
	says(t, defs, of(121, 123, 125), "{...f} fragment f on Nope{...f} fragment g on Nope{a}")
	says(t, defs, of(123, 124), "{...f} fragment g on T{a}")
	breaks(t, read(t, "{...on Int{a} ...on Nope{a} ...on T{a} ...x ...f} fragment f on Query{...f} fragment g on T{a} fragment g on T{b}"), nil, 120, 121, 123, 124, 125)
}

// Arguments, directives, aliases and variables make no difference.
func TestNoDifference(t *testing.T) {
	defs := types(t, wide)
	for _, l := range [][2]string{
		{"{queryT{...f}} fragment f on T{a}", "query q($f:Nope=1@x,$g:T@f){a:queryT(filter:{a:{eq:$f}},f:f)@skip(if:$f){...f@x(f:$f)@skip(if:true)}} fragment f on T@x(a:1){f:a(g:g)@f}"},
		{"{...on T{a}}", "query($a:T){...on T@skip(if:$a){a@x}}"}, {"{...f}", "query f($f:f)@f(f:$f){...f@f(f:f)}"}, {"{queryT{a}} fragment f on T{a}", "query f($f:f=f)@f{f:queryT(f:f)@f{f:a(f:$f)}} fragment f on T@f(f:$f){f:a@f}"},
		{"{queryT{a b{...f}}} fragment f on T{b{...f}}", "{queryT{b:a a:b(x:1){...f}}} fragment f on T{g:b@skip(if:false){...f@skip(if:true)}}"}, {"{...{a}}", "{...@on(on:on){on:a}}"},
	} {
		if x, y := checks(t, read(t, l[0]), defs), checks(t, read(t, l[1]), defs); !slices.Equal(x, y) {
			t.Errorf("%q: %v, but of %q %v", l[0], x, l[1], y)
		}
	}
}
