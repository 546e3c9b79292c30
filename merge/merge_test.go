package merge_test

import (
	"fmt"
	"reflect"
	"slices"
	"testing"

	"rhizome/api"
	"rhizome/gen"
	"rhizome/merge"
	"rhizome/sdl"
	"rhizome/syntax"
)

// copied is a value in memory of its own, with room behind each list; a list that is not there is empty.
func copied[T any](x T) T {
	var y T
	copyInto(reflect.ValueOf(&y).Elem(), reflect.ValueOf(x))
	return y
}

func copyInto(to, from reflect.Value) {
	switch from.Kind() {
	case reflect.Slice:
		to.Set(reflect.MakeSlice(from.Type(), from.Len(), from.Len()+2))
		for i := range from.Len() {
			copyInto(to.Index(i), from.Index(i))
		}
	case reflect.Struct:
		for i := range from.NumField() {
			copyInto(to.Field(i), from.Field(i))
		}
	default:
		to.Set(from)
	}
}

// blank: is nothing in the room behind each list?
func blank(v reflect.Value) bool {
	switch v.Kind() {
	case reflect.Slice:
		all := v.Slice(0, v.Cap())
		for i := range all.Len() {
			if i < v.Len() && !blank(all.Index(i)) || i >= v.Len() && !all.Index(i).IsZero() {
				return false
			}
		}
	case reflect.Struct:
		for i := range v.NumField() {
			if !blank(v.Field(i)) {
				return false
			}
		}
	}
	return true
}

// untouched is a copy of a value, and says whether that copy is as it was.
func untouched[T any](t *testing.T, x T) (T, func()) {
	y := copied(x)
	return y, func() {
		t.Helper()
		if !reflect.DeepEqual(y, copied(x)) || !blank(reflect.ValueOf(&y).Elem()) {
			t.Errorf("%s: was changed to %s", short(x), short(y))
		}
	}
}

// short is how a test writes a value that may be long.
func short(x any) string { return fmt.Sprintf("%.2000s", fmt.Sprint(x)) }

// types are the definitions of a schema's text.
func types(t *testing.T, text string) []api.Def {
	t.Helper()
	s, at, e := sdl.Parse(text)
	if e != api.OK {
		t.Fatalf("%q: %d at %d", text, e, at)
	}
	defs, e := gen.Types(s)
	if e != api.OK {
		t.Fatalf("%q: %d", text, e)
	}
	return defs
}

// read is the tree of a text.
func read(t *testing.T, text string) api.Doc {
	t.Helper()
	d, at, e := syntax.Parse(text)
	if e != api.OK {
		t.Fatalf("%q: %d at %d", text, e, at)
	}
	return d
}

// checks holds Check against the model, and tells what it answers.
func checks(t *testing.T, d api.Doc, defs []api.Def) []api.Errno {
	t.Helper()
	l := merge.Check(d, defs)
	if want := modelCheck(d, defs); !slices.Equal(l, want) {
		t.Errorf("%s\nof %s:\n%v, not %v", short(d), short(defs), l, want)
	}
	return l
}

// breaks holds Check of a tree against rules.
func breaks(t *testing.T, d api.Doc, defs []api.Def, rules ...api.Errno) {
	t.Helper()
	d, doc := untouched(t, d)
	defs, types := untouched(t, defs)
	if l := checks(t, d, defs); !slices.Equal(l, rules) {
		t.Errorf("%s: %v, not %v", short(d), l, rules)
	}
	doc()
	types()
}

// turned is a document that has all its lists the other way round; what is within a value stays.
func turned(d api.Doc) api.Doc {
	d = copied(d)
	turn(reflect.ValueOf(&d).Elem())
	return d
}

func turn(v reflect.Value) {
	switch v.Kind() {
	case reflect.Slice:
		for i := range v.Len() {
			turn(v.Index(i))
		}
		for i := range v.Len() / 2 {
			reflect.Swapper(v.Interface())(i, v.Len()-1-i)
		}
	case reflect.Struct:
		if v.Type() == reflect.TypeFor[api.Value]() {
			return
		}
		for i := range v.NumField() {
			turn(v.Field(i))
		}
	}
}

// twice: have two fragments the same name?
func twice(d api.Doc) bool {
	seen := map[string]bool{}
	for _, x := range d.Frags {
		if seen[x.Name] {
			return true
		}
		seen[x.Name] = true
	}
	return false
}

// says holds Check of each text against rules, from both sides: order makes no difference.
func says(t *testing.T, defs []api.Def, rules []api.Errno, texts ...string) {
	t.Helper()
	for _, text := range texts {
		d := read(t, text)
		breaks(t, d, defs, rules...)
		if !twice(d) {
			breaks(t, turned(d), defs, rules...)
		}
		if t.Failed() {
			t.Fatalf("%q", text)
		}
	}
}

// Nothing is broken, or what this layer asks.
var (
	no  []api.Errno
	bad = []api.Errno{140}
)

const (
	chapter = "type T{a:Int! b:[T!]!}"
	wide    = "enum E{A B} enum F{A B} type T{a:Int! i:Int! n:Int f:Float! e:E! g:F! b:[T!]! d:[T!]! c:T h:T u:U us:[U!]!} type U{a:Int! i:Int! n:Int f:Float! c:T u:U us:[U!]!}"
)

// P14.1: the chapter's examples.
func TestExamples(t *testing.T) {
	defs := types(t, chapter)
	says(t, defs, no, "{queryT{a a id x:a}}", "{getT(id:1){a} getT(id:1){b{a}}}")
	says(t, defs, bad, "{getT(id:1){a} getT(id:2){a}}", "{queryT{x:a x:id}}", "{queryT{b{x:a} ...f}} fragment f on T{b{x:id}}")
}

func TestErrors(t *testing.T) {
	if api.ErrMerge != 140 {
		t.Error(api.ErrMerge)
	}
}

// What has nothing, or nothing that meets.
func TestNothing(t *testing.T) {
	defs := types(t, wide)
	for _, d := range []api.Doc{
		{}, {Ops: []api.Op{}, Frags: []api.Frag{}}, {Ops: []api.Op{{}, {}}, Frags: []api.Frag{{}, {}}}, {Ops: []api.Op{{Kind: -1}, {Kind: 9}}}, {Ops: []api.Op{{Sels: []api.Sel{{}}}}}, {Ops: []api.Op{{Sels: []api.Sel{{}, {}}}}},
	} {
		breaks(t, d, defs)
		breaks(t, d, nil)
		breaks(t, d, []api.Def{{}, {}})
		breaks(t, d, []api.Def{{Kind: api.DefObject}, {Name: "Query", Kind: api.DefObject}})
	}
	says(t, defs, no, "{__typename}", "{queryT{a}}", "{queryT{a b{a}}}", "{nope}", "subscription{nope{nope}}", "{...f}", "{...on T{a}}", "mutation{deleteT(filter:{})}")
}

// P14.1: two fields of one set.

func TestNames(t *testing.T) {
	defs := types(t, wide)
	says(t, defs, no,
		"{queryT{a a}}", "{queryT{a a a a}}", "{queryT{a a:a}}", "{queryT{a:a a:a}}", "{queryT{x:a x:a}}", "{queryT{x:a a x:a a}}", "{queryT{x:a y:a}}", "{queryT{x:a X:a}}", "{queryT{a:i i:a}}", "{queryT{a:i i:a a:i i:a}}", "{queryT{x:__typename x:__typename}}",
		"{queryT{x:c{a} x:c{i}}}", "{queryT{x:a} queryT{y:i}}", "{queryT{x:a b{x:i c{x:n}}}}", "{x:queryT{y:a} y:queryT{x:a}}")
	says(t, defs, bad,
		"{queryT{x:a x:i}}", "{queryT{a a:i}}", "{queryT{a:i a}}", "{queryT{a:i a:a}}", "{queryT{x:a x:a x:i}}", "{queryT{x:a x:i x:a}}", "{queryT{x:i x:a x:a}}", "{queryT{x:a y:a z:i x:i}}", "{queryT{x:a y:i x:a y:a}}", "{x:queryT{a} x:queryU{a}}",
		"{queryT{x:b{a} x:d{a}}}", "{queryT{x:c{a} x:h{i}}}", "{queryT{b{c{h{x:a x:i}}}}}", "{queryT{__typename:a __typename}}", "mutation{x:addT(input:[]){a} x:addU(input:[]){a}}", "{queryT{a:__typename a}}", "{queryT{a:f a}}")
	// What is not there has a Name, too.
	says(t, defs, no, "{nope nope}", "{queryT{nope nope x:nope x:nope}}", "subscription{a a b:a b:a}", "{queryT{a{b:c b:c}}}")
	says(t, defs, bad, "{x:nope x:none}", "{queryT{x:nope x:none}}", "{queryT{x:nope x:a}}", "{queryT{a nope{x:a x:b}}}", "subscription{x:a x:b}", "{queryT{a{x:c x:b}}}", "{nope{x:a x:b}}")
	// Names that no text has are names.
	for _, name := range []string{"\x00", "a b", "\xff", "é", "...", "on"} {
		other := name + " "
		d := func(l ...api.Sel) api.Doc { return api.Doc{Ops: []api.Op{{Sels: l}}} }
		breaks(t, d(api.Sel{Name: name}, api.Sel{Name: name}), defs)
		breaks(t, d(api.Sel{Name: name}, api.Sel{Name: other}), defs)
		breaks(t, d(api.Sel{Alias: name, Name: other}, api.Sel{Name: name}), defs, 140)
		breaks(t, d(api.Sel{Alias: name, Name: name}, api.Sel{Name: name}), defs)
		breaks(t, d(api.Sel{Alias: name}, api.Sel{Name: name}), defs, 140)
		breaks(t, d(api.Sel{Alias: name}, api.Sel{Alias: name}), defs)
		breaks(t, d(api.Sel{Alias: name}, api.Sel{Alias: name, Name: name}), defs, 140)
		breaks(t, d(api.Sel{Alias: name}, api.Sel{}), defs)
	}
}

// Only fields have a response name.
func TestKinds(t *testing.T) {
	defs := types(t, wide)
	for kind := -2; kind <= api.SelKinds+2; kind++ {
		x := api.Sel{Kind: kind, Alias: "x", Name: "a"}
		y := api.Sel{Kind: kind, Alias: "x", Name: "i"}
		field := api.Sel{Alias: "x", Name: "e"}
		within := func(l ...api.Sel) api.Doc {
			return api.Doc{Ops: []api.Op{{Sels: []api.Sel{{Name: "queryT", Sels: l}}}}}
		}
		rules := no
		if kind == api.SelField {
			rules = bad
		}
		breaks(t, within(x, y), defs, rules...)
		breaks(t, within(x, field), defs, rules...)
		breaks(t, within(field, y), defs, rules...)
		breaks(t, within(x, x), defs)
		// What stands in another one meets what stands around it only if that is an inline fragment.
		x.Sels = []api.Sel{{Alias: "x", Name: "i"}}
		rules = no
		if kind == api.SelInline {
			rules = bad
		}
		x.Alias, x.Name = "", "nope"
		breaks(t, within(x, field), defs, rules...)
		x.Sels = append(x.Sels, api.Sel{Alias: "x", Name: "e"})
		breaks(t, within(x), defs, 140)
		x.Sels = []api.Sel{{Name: "c", Sels: x.Sels[:1]}, {Name: "c", Sels: x.Sels[1:]}}
		breaks(t, within(x), defs, 140)
		x.Sels[1].Sels[0].Name = "i"
		breaks(t, within(x), defs)
	}
}

// called is a field with arguments, if there are any.
func called(args string) string {
	if args == "" {
		return "q"
	}
	return "q(" + args + ")"
}

// Each row of arguments is the same as those in its line, and no other.
func TestArguments(t *testing.T) {
	defs := types(t, wide)
	lines := [][]string{
		// As many or not, in another order.
		{""}, {"a:1"}, {"b:1"}, {"A:1"}, {"a:1,b:2", "b:2,a:1"}, {"a:1,b:2,c:3", "b:2,a:1,c:3", "c:3,b:2,a:1", "b:2,c:3,a:1"}, {"a:2,b:1", "b:1,a:2"}, {"b:2"}, {"a:1,c:2"},
		// One that is there more than once.
		{"a:1,a:1"}, {"a:1,a:1,a:1"}, {"a:1,a:2", "a:2,a:1"}, {"a:1,a:1,a:2", "a:1,a:2,a:1", "a:2,a:1,a:1", "a:1,a:2,a:2", "a:2,a:1,a:2", "a:2,a:2,a:1"}, {"a:2,a:2"}, {"a:1,a:1,b:2", "a:1,b:2,b:2", "b:2,a:1,b:2"}, {"a:1,a:1,b:1"}, {"a:1,a:2,b:2"},
		// Kinds and Texts.
		{"a:null"}, {"a:true"}, {"a:false"}, {"a:$x"}, {"a:$y"}, {"a:x"}, {"a:y"}, {`a:"x"`, `a:"\u0078"`, `a:"""x"""`}, {`a:"y"`}, {`a:""`, `a:""""""`}, {"a:1.0"}, {"a:1e0"}, {"a:10"}, {`a:"1"`}, {"a:-1"}, {"a:0"}, {"a:-0"},
		// Lists and Names, in their order, and what is within.
		{"a:[]"}, {"a:{}"}, {"a:[1]"}, {"a:[1,1]"}, {"a:[1,2]"}, {"a:[2,1]"}, {"a:[[1],2]"}, {"a:[[1,2]]"}, {"a:[[]]"}, {"a:[[],[]]"}, {"a:[null]"}, {"a:[{}]"}, {"a:[x]"}, {"a:[$x]"},
		{"a:{x:1}"}, {"a:{y:1}"}, {"a:{x:2}"}, {"a:{x:1,y:2}"}, {"a:{y:2,x:1}"}, {"a:{x:2,y:1}"}, {"a:{y:1,x:2}"}, {"a:{x:1,x:1}"}, {"a:{x:{x:1}}"}, {"a:{x:{x:2}}"}, {"a:{x:{y:1}}"}, {"a:{x:[1]}"}, {"a:{x:[[{y:[1]}]]}"}, {"a:{x:[[{y:[2]}]]}"},
	}
	for i, l := range lines {
		for j, others := range lines[:i+1] {
			rules := bad
			if i == j {
				rules = no
			}
			for _, x := range l {
				for _, y := range others {
					says(t, defs, rules, "{"+called(x)+" "+called(y)+"}")
				}
			}
		}
	}
}

// Values that no text has: each is the same as itself alone.
func TestValues(t *testing.T) {
	defs := types(t, wide)
	one, other := api.Value{Kind: api.ValInt, Text: "1"}, api.Value{Kind: api.ValInt, Text: "2"}
	var l []api.Value
	for kind := -2; kind <= api.ValKinds+2; kind++ {
		l = append(l, api.Value{Kind: kind}, api.Value{Kind: kind, Text: "1"}, api.Value{Kind: kind, Text: "\xff"}, api.Value{Kind: kind, Names: []string{"x"}}, api.Value{Kind: kind, Names: []string{"y"}}, api.Value{Kind: kind, Names: []string{"x", ""}}, api.Value{Kind: kind, Names: []string{"", "x"}},
			api.Value{Kind: kind, List: []api.Value{one}}, api.Value{Kind: kind, List: []api.Value{one, other}}, api.Value{Kind: kind, List: []api.Value{other, one}}, api.Value{Kind: kind, Names: []string{"x"}, List: []api.Value{one}}, api.Value{Kind: kind, Names: []string{"x"}, List: []api.Value{one, other}}, api.Value{Kind: kind, List: []api.Value{{Kind: kind, List: []api.Value{one}}}})
	}
	d := func(v, w api.Value) api.Doc {
		return api.Doc{Ops: []api.Op{{Sels: []api.Sel{{Name: "q", Args: []api.Arg{{Value: v}}}, {Name: "q", Args: []api.Arg{{Value: w}}}}}}}
	}
	for i, v := range l {
		for j, w := range l {
			if told := len(checks(t, d(v, w), defs)) > 0; told == (i == j) {
				t.Errorf("%v and %v: %v", v, w, told)
			}
		}
		if t.Failed() {
			return
		}
	}
}

// Fields that have no Sels, fields that have, and directives make no difference to two that meet.
func TestNoMatter(t *testing.T) {
	defs := types(t, wide)
	says(t, defs, no, "{queryT{a a{x}}}", "{queryT{b b{a}}}", "{queryT{a@skip(if:true) a@include(if:true)@x(y:1) a}}", "query($x:Int=1)@a{queryT{a}} query b($x:Int=2)@c{queryT{a}}", "{queryT{b{a} b b{i}}}", "{queryT{b@x{a} b@skip(if:false){a}}}")
	says(t, defs, bad, "{queryT{a@x i:a a:i}}", "{queryT{x:a@skip(if:true) x:i@include(if:true)}}", "{queryT{x:b x:d{a}}}", "{queryT{x:b@skip(if:true) x:d@skip(if:false)}}", "{queryT(first:1){a} queryT@first(first:1){a}}")
}

// P14.1: the fields of a set.

func TestInline(t *testing.T) {
	defs := types(t, wide)
	says(t, defs, no, "{queryT{x:a ...{x:a}}}", "{queryT{x:a ...on T{x:a}}}", "{queryT{...on T{x:a} ...{...{x:a}} x:a}}", "{queryT{...{x:a y:i} ...{y:i x:a}}}", "{queryT{...{x:a} c{...{x:i}}}}", "{queryT{...on T{b{x:a}} ...{b{x:a} c{x:i}}}}", "{...{queryT{a}} ...on Query{queryT{i}}}")
	says(t, defs, bad,
		"{queryT{x:a ...{x:i}}}", "{queryT{x:a ...on T{x:i}}}", "{queryT{...{x:a} ...{x:i}}}", "{queryT{...on T{x:a} ...on T{x:i}}}", "{queryT{...{...{...{x:a}}} ...on T{...on T{x:i}}}}", "{queryT{...{x:a x:i}}}", "{queryT{...on T{...{y:a x:a} ...{z:i x:i}}}}",
		"{queryT{...{b{x:a}} ...on T{b{x:i}}}}", "{queryT{b{...{x:a}} b{...on T{x:i}}}}", "{...{x:queryT{a}} ...on Query{x:queryU{a}}}", "{queryT{...{b{x:a}} ...{b{y:a}} b{x:i}}}")
	says(t, defs, no, "{queryT{...@skip(if:true){x:a} ...@include(if:false){x:a}}}")
	says(t, defs, bad, "{queryT{...@skip(if:true){x:a} ...@include(if:false){x:i}}}")
}

func TestSpreads(t *testing.T) {
	defs := types(t, wide)
	says(t, defs, no,
		"{queryT{x:a ...f}} fragment f on T{x:a}", "{queryT{...f ...g}} fragment f on T{x:a} fragment g on T{x:a}", "{queryT{...f c{...g}}} fragment f on T{x:a} fragment g on T{x:i}", "{queryT{...f} x:queryT{...g}} fragment f on T{x:a} fragment g on T{x:i}", "{queryT{...f}} fragment f on T{...g y:a} fragment g on T{x:a y:a}",
		"{queryT{b{...f} b{...g}}} fragment f on T{x:a} fragment g on T{x:a c{x:i}}", "{queryT{x:a ...f}} fragment g on T{x:i}", "{queryT{x:a ...f ...h}} fragment g on T{x:i}")
	says(t, defs, bad,
		"{queryT{x:a ...f}} fragment f on T{x:i}", "{queryT{...f ...g}} fragment f on T{x:a} fragment g on T{x:i}", "{queryT{...f}} fragment f on T{x:a x:i}", "{queryT{...f x:a}} fragment f on T{...g} fragment g on T{x:i}", "{queryT{...f ...g}} fragment f on T{...h} fragment g on T{...i} fragment h on T{x:a} fragment i on T{x:i}",
		"{queryT{...f}} fragment f on T{...g ...h} fragment g on T{x:a} fragment h on T{x:i}", "{queryT{...f}} fragment f on T{x:a ...g} fragment g on T{x:i}", "{queryT{...f x:a}} fragment f on T{...g} fragment g on T{...h} fragment h on T{...i} fragment i on T{x:i}",
		"{queryT{b{...f} b{...g}}} fragment f on T{x:a} fragment g on T{x:i}", "{queryT{b{...f} b{x:i}}} fragment f on T{x:a}", "{queryT{b{...f} b{x:i}}} fragment f on T{...g} fragment g on T{x:a}", "{queryT{...f ...g}} fragment f on T{b{x:a}} fragment g on T{b{x:i}}",
		"{queryT{...f@skip(if:true) ...g@skip(if:false)}} fragment f on T{x:a} fragment g on T{x:i}", "{...f ...g} fragment f on Query{x:queryT{a}} fragment g on Query{x:queryU{a}}", "mutation{...f x:deleteU(filter:{})} fragment f on Mutation{x:deleteT(filter:{})}")
	// By inline fragments and spreads, however these stand in one another.
	says(t, defs, no, "{queryT{...{...f} ...on T{...f} x:a}} fragment f on T{...{x:a}}", "{queryT{...{...f} ...g}} fragment f on T{...on T{x:a}} fragment g on T{...{...on T{x:a}}}")
	says(t, defs, bad, "{queryT{...{...f} x:a}} fragment f on T{x:i}", "{queryT{...f x:a}} fragment f on T{...{x:i}}", "{queryT{...{...f} ...on T{...g}}} fragment f on T{x:a} fragment g on T{...{x:i}}", "{queryT{x:a ...{...{...f}}}} fragment f on T{...{...g}} fragment g on T{...on T{...{x:i}}}", "{queryT{b{...{...f}} ...{b{...on T{x:a}}}}} fragment f on T{...{x:i}}")
}

// Round a cycle, too, each field stands once.
func TestCycles(t *testing.T) {
	defs := types(t, wide)
	says(t, defs, no,
		"{queryT{...f}} fragment f on T{...f x:a}", "{queryT{...f x:a}} fragment f on T{...g x:a} fragment g on T{x:a ...f}", "{queryT{...f}} fragment f on T{b{...f x:a}}", "{queryT{...f}} fragment f on T{x:a b{...f} b{...f x:a}}", "{queryT{...f}} fragment f on T{c{...g} x:a} fragment g on T{c{...f} x:i}",
		"{...f} fragment f on T{...g} fragment g on T{...h x:a} fragment h on T{...g x:a}", "{queryT{...f ...f b{...f}}} fragment f on T{b{...f} b{...f}}")
	says(t, defs, bad,
		"{queryT{...f}} fragment f on T{...f x:a x:i}", "{queryT{...f x:i}} fragment f on T{...g} fragment g on T{x:a ...f}", "{queryT{...g x:i}} fragment f on T{...g x:a} fragment g on T{...f}", "{queryT{...f}} fragment f on T{x:a b{...f x:i}}", "{queryT{...f}} fragment f on T{x:a ...{b{c{x:i}}} b{c{...f}}}",
		"{queryT{...f}} fragment f on T{b{...f x:a} c{x:i} ...g} fragment g on T{b{...g x:i}}", "{queryT{...f}} fragment f on T{...g} fragment g on T{...h x:a} fragment h on T{...f x:i}",
		"{queryT{...f}} fragment f on T{c{...g} x:a} fragment g on T{c{...f} c{x:i}}", "{queryT{...f ...g}} fragment f on T{c{c{...f}} x:a} fragment g on T{c{c{c{c{x:i}}}}}")
	// One goes round four fields, the other one round six: what stands three and five deep meets eleven deep, but what stands three and four deep never does.
	says(t, defs, bad, "{queryT{...f ...g}} fragment f on T{c{c{c{c{...f} x:i}}}} fragment g on T{c{c{c{c{c{c{...g} x:a}}}}}}")
	says(t, defs, no, "{queryT{...f ...g}} fragment f on T{c{c{c{c{...f} x:i}}}} fragment g on T{c{c{c{c{c{c{...g}} x:a}}}}}", "{queryT{...f ...g}} fragment f on T{c{c{c{c{...f} x:i}}}} fragment g on T{c{c{c{c{c{c{...g} x:i}}}}}}")
}

// A fragment that is reached twice has its fields once: a place does not meet itself.
func TestOnce(t *testing.T) {
	defs := types(t, wide)
	says(t, defs, no, "{queryT{...f ...f}} fragment f on T{x:a}", "{queryT{...f ...g ...h}} fragment f on T{x:a} fragment g on T{...f} fragment h on T{...f ...g}", "{queryT{b{...f} b{...f}}} fragment f on T{x:a}", "{queryT{b{...f} ...{b{...g}}}} fragment f on T{x:a} fragment g on T{...f}", "{...f queryT{...g}} fragment f on Query{queryT{...g}} fragment g on T{b{b{x:a}}}")
	// Where the sets that it is in meet by shape alone, and where nothing has a definition, too.
	says(t, defs, no, "{...on T{c{...f}} ...on U{c{...f}}}fragment f on T{x:a b{x:a}}", "{...on T{c{...f} x:a} ...on U{c{...g} x:i}}fragment f on T{x:a b{x:a}} fragment g on T{...f ...f}", "{...on T{...f} ...on U{...f}}fragment f on U{x:a(y:1)}")
	breaks(t, read(t, "{a{...f} a{...f}} fragment f on T{x{y(z:1)}}"), nil)
}

// Of several fragments of one name the first is spread; each is a set by itself.
func TestTwice(t *testing.T) {
	defs := types(t, wide)
	says(t, defs, no, "{queryT{x:a ...f}} fragment f on T{x:a} fragment f on T{x:i}", "{queryT{...f ...g}} fragment f on T{x:a} fragment g on T{x:a} fragment f on T{x:i} fragment g on T{x:n}", "{queryT{x:a ...f}} fragment f on T{y:a} fragment f on T{x:i ...f}")
	says(t, defs, bad, "{queryT{x:a ...f}} fragment f on T{x:i} fragment f on T{x:a}", "{queryT{...f}} fragment f on T{x:a} fragment f on T{x:a x:i}", "{queryT{...f}} fragment f on T{x:a x:i} fragment f on T{x:a}", "{queryT{...f}} fragment f on T{x:a} fragment f on T{x:i ...f}", "{queryT{...f ...g}} fragment g on T{x:a} fragment f on T{x:i} fragment g on T{x:i}")
	// A name may be empty, and so may a fragment.
	x := func(name string) api.Sel { return api.Sel{Alias: "x", Name: name} }
	d := api.Doc{Ops: []api.Op{{Sels: []api.Sel{x("a"), {Kind: api.SelSpread}}}}, Frags: []api.Frag{{On: "Query"}, {On: "Query", Sels: []api.Sel{x("b")}}}}
	breaks(t, d, defs)
	d.Frags = d.Frags[1:]
	breaks(t, d, defs, 140)
	d.Frags[0].Name = "f"
	breaks(t, d, defs)
}

// P14.1: which fields meet.

func TestDeeper(t *testing.T) {
	defs := types(t, wide)
	says(t, defs, no, "{queryT{b{a} b{i}}}", "{queryT{b{x:a} d{x:i}}}", "{queryT{y:b{x:a} b{x:i}}}", "{queryT{b{c{x:a}} b{h{x:i}}}}", "{queryT{b{x:a c{x:i}} b{x:a c{x:i}}}}", "{queryT{b{c{x:a} h{x:i}} b{c{x:a} h{x:i}}}}", "{queryT{b{x:c{a} y:h{a}} b{x:c{i} y:h{i}}}}")
	says(t, defs, bad, "{queryT{b{x:a} b{x:i}}}", "{queryT{b{x:a x:i}}}", "{queryT{b{c{x:a}} b{c{x:i}}}}", "{queryT{b{c{h{c{h{x:a}}}}} b{c{h{c{h{x:i}}}}}}}", "{queryT{y:b{x:a} y:b{x:i}}}", "{queryT{b{x:c{a}} b{x:h{a}}}}", "{queryT{b{x:a} b{y:a} b{x:i}}}", "{queryT{b{x:a} b b{x:i}}}", "{queryT{b{c{x:a}} b{c{y:a}} b{c{z:a} c{x:i}}}}", "{queryT{a} queryT{x:a} queryT{x:i}}",
		"{queryT{b{c{b(first:1){a}}} b{c{b{a}}}}}", "{queryT{b(first:1){a} b(first:1){a} b{a}}}")
}

// unlike says it of fields in sets of unlike parents, both objects, and, where only these make the difference, of like ones.
func unlike(t *testing.T, defs []api.Def, rules []api.Errno, one, other string) {
	t.Helper()
	says(t, defs, rules, "{...on T{"+one+"} ...on U{"+other+"}}", "{queryT{"+one+" ...on U{"+other+"}}}", "{...{...on T{"+one+"}} ...f} fragment f on U{"+other+"}", "{...f ...g} fragment f on T{"+one+"} fragment g on U{"+other+"}", "{queryT{...g "+one+"}} fragment g on U{"+other+"}", "{c{...on T{"+one+"}} c{...on U{"+other+"}}}")
	says(t, defs, bad, "{...on T{"+one+"} ...on T{"+other+"}}", "{queryT{"+one+" "+other+"}}")
}

// Who is not at one may have unlike Names and arguments, but the types are of one shape.
func TestUnlikeParents(t *testing.T) {
	defs := types(t, wide)
	unlike(t, defs, no, "x:a", "x:i")
	unlike(t, defs, no, "x:a(y:1)", "x:a")
	unlike(t, defs, no, "x:a(y:1)", "x:i(y:2)")
	unlike(t, defs, no, "x:c{a}", "x:u{i}")
	unlike(t, defs, no, "x:us{a}", "x:b{a}")
	unlike(t, defs, no, "x:nope", "x:a")
	unlike(t, defs, no, "x:nope", "x:none")
	unlike(t, defs, bad, "x:a", "x:n")
	unlike(t, defs, bad, "x:n", "x:f")
	unlike(t, defs, bad, "x:us{a}", "x:c{a}")
	unlike(t, defs, bad, "x:a", "x:c{a}")
	unlike(t, defs, bad, "x:e", "x:a")
	unlike(t, defs, bad, "x:__typename", "x:a")
	// Two of the one set, or of one of the two sets, are at one.
	says(t, defs, bad, "{...on T{x:a x:i} ...on U{x:i}}", "{...on T{x:a} ...on U{x:i} ...on T{x:i}}", "{...on T{x:a} ...on U{x:i x:a}}", "{...on T{x:a ...on U{x:i} ...on T{...on U{x:a}}}}")
	says(t, defs, no, "{...on T{x:a x:a} ...on U{x:i} ...on T{x:a} ...on U{...on U{x:i}}}")
}

// What is below those that are not at one meets by shape alone, however alike its parents are.
func TestBelowUnlike(t *testing.T) {
	defs := types(t, wide)
	unlike(t, defs, no, "c{x:a}", "c{x:i}")
	unlike(t, defs, no, "c{c{c{x:a}}}", "c{c{c{x:i}}}")
	unlike(t, defs, no, "c{x:c{y:a}}", "c{x:h{y:i}}")
	unlike(t, defs, no, "c{...on T{x:a}}", "c{...{x:i}}")
	unlike(t, defs, no, "c{x:b(first:1){a}}", "c{x:d{a}}")
	unlike(t, defs, no, "c{x:b{y:a}}", "c{x:us{y:i}}")
	unlike(t, defs, no, "c{x:nope}", "c{x:none}")
	unlike(t, defs, bad, "c{x:a}", "c{x:n}")
	unlike(t, defs, bad, "c{x:c{y:a}}", "c{x:u{y:n}}")
	unlike(t, defs, bad, "c{x:b{a}}", "c{x:c{a}}")
	unlike(t, defs, bad, "c{c{c{x:a}}}", "c{c{c{x:f}}}")
	unlike(t, defs, bad, "c{c{x:e}}", "c{c{x:g}}")
	// Below two of the same parents it is not by shape alone.
	says(t, defs, bad, "{...on T{c{x:a}} ...on U{c{x:i}} ...on T{c{x:i}}}", "{...on T{c{x:a x:i}} ...on U{c{x:i}}}")
	says(t, defs, no, "{...on T{c{x:a}} ...on U{c{x:i}} ...on T{c{x:a}}}")
	// The types that are above do not tell whether it is by shape.
	says(t, defs, bad, "{queryT{c{...on T{x:a}} c{...on T{x:i}}}}", "{queryT{x:c{y:a} x:c{y:i}}}")
}

// Two may meet both ways.
func TestBothWays(t *testing.T) {
	defs := types(t, wide)
	shape, whole := "...on T{c{...f}} ...on U{c{...g}}", "c{...f ...g}"
	for _, l := range [][2]string{{"x:a", "x:i"}, {"c{x:a}", "c{x:i}"}, {"c{c{h{x:a}}}", "c{c{h{x:i}}}"}, {"x:a", "x:a(y:1)"}, {"x:c{a}", "x:h{a}"}, {"x:a", "...{x:i}"}} {
		frags := " fragment f on T{" + l[0] + "} fragment g on T{" + l[1] + "}"
		says(t, defs, no, "{"+shape+"}"+frags)
		says(t, defs, bad, "{"+whole+"}"+frags, "{"+shape+" b{"+whole+"}}"+frags, "{b{"+whole+"} "+shape+"}"+frags, "query a{"+shape+"} query b{"+whole+"}"+frags, "query a{"+whole+"} query b{"+shape+"}"+frags, "{"+shape+"}"+frags+" fragment h on T{...f ...g}", "{"+shape+"}"+frags+" fragment h on T{b{...f} b{...g}}")
	}
	// Of what meets both ways, what is below does, too: from wholly there is a way to by shape, but none back.
	for _, l := range [][2]string{{"...on T{c{x:a}}", "...on U{c{x:i}}"}, {"...on T{x:a}", "...on U{x:i}"}} {
		frags := " fragment f on T{" + l[0] + "} fragment g on T{" + l[1] + "}"
		says(t, defs, no, "{"+shape+"}"+frags, "{"+whole+"}"+frags, "{"+shape+" b{"+whole+"}}"+frags, "{b{"+whole+"} "+shape+"}"+frags)
	}
}

// Two operations do not meet, but in fragments that both spread; nor do a fragment and what nothing joins to it.
func TestOperations(t *testing.T) {
	defs := types(t, wide)
	says(t, defs, no, "query a{x:queryT{a}} query b{x:queryU{a}}", "query a{queryT{x:a}} query b{queryT{x:i}}", "query a{x:queryT{a}} mutation b{x:deleteT(filter:{})}", "{queryT{x:a}} fragment f on T{x:i}", "{a} fragment f on T{x:a} fragment g on T{x:i}", "query a{queryT{...f x:a}} query b{queryT{...f x:i}} fragment f on T{y:a}", "query a{queryT{...f x:a}} query b{queryT{...g x:i}} fragment f on T{x:a} fragment g on T{x:i}", "query a{queryT{c{x:a} ...f}} query b{queryT{c{x:i} ...f}} fragment f on T{c{y:a}}", "query a{queryT{...f}} query b{queryT{...g}} fragment f on T{c{x:a} ...h} fragment g on T{c{x:i} ...h} fragment h on T{c{y:a} c{z:a}}")
	says(t, defs, bad, "query a{__typename} query b{queryT{x:a x:i}}", "query a{queryT{x:a x:i}} query b{__typename}", "query a{queryT{...f x:a}} query b{queryT{...f x:i}} fragment f on T{x:a}", "query a{queryT{...f}} query b{queryT{...f}} fragment f on T{x:a x:i}", "query a{queryT{...f}} mutation b{addT(input:[]){...f}} fragment f on T{c{x:a} c{x:i}}")
	// Fragments that nothing spreads, or that only such ones do.
	says(t, defs, bad, "{__typename} fragment f on T{x:a x:i}", "{__typename} fragment f on T{x:a ...g} fragment g on T{x:i}", "{__typename} fragment f on Nope{c{x:a} c{x:i}}", "{__typename} fragment f on T{...f x:a b{...f x:i}}")
	for kind := -2; kind <= api.OpKinds+2; kind++ {
		d := read(t, "{x:c{a} x:h{a}}")
		d.Ops[0].Kind = kind
		breaks(t, d, defs, 140)
		d.Ops[0].Sels = d.Ops[0].Sels[1:]
		breaks(t, d, defs)
	}
}
