package fields_test

import (
	"fmt"
	"reflect"
	"slices"
	"testing"

	"rhizome/api"
	"rhizome/fields"
	"rhizome/gen"
	"rhizome/sdl"
	"rhizome/syntax"
)

// copied is a value in memory of its own, with room behind each list; a list that is not there is empty.
func copied[T any](x T) T {
	var y T
	copyInto(reflect.ValueOf(&y).Elem(), reflect.ValueOf(x))
	return y
}

func copyInto(to, from reflect.Value) {
	switch from.Kind() {
	case reflect.Slice:
		to.Set(reflect.MakeSlice(from.Type(), from.Len(), from.Len()+2))
		for i := range from.Len() {
			copyInto(to.Index(i), from.Index(i))
		}
	case reflect.Struct:
		for i := range from.NumField() {
			copyInto(to.Field(i), from.Field(i))
		}
	default:
		to.Set(from)
	}
}

// blank: is nothing in the room behind each list?
func blank(v reflect.Value) bool {
	switch v.Kind() {
	case reflect.Slice:
		all := v.Slice(0, v.Cap())
		for i := range all.Len() {
			if i < v.Len() && !blank(all.Index(i)) || i >= v.Len() && !all.Index(i).IsZero() {
				return false
			}
		}
	case reflect.Struct:
		for i := range v.NumField() {
			if !blank(v.Field(i)) {
				return false
			}
		}
	}
	return true
}

// short is how a test writes a value that may be long.
func short(x any) string { return fmt.Sprintf("%.2000s", fmt.Sprint(x)) }

// types are the definitions of a schema's text.
func types(t *testing.T, text string) []api.Def {
	t.Helper()
	s, at, e := sdl.Parse(text)
	if e != api.OK {
		t.Fatalf("%q: %d at %d", text, e, at)
	}
	defs, e := gen.Types(s)
	if e != api.OK {
		t.Fatalf("%q: %d", text, e)
	}
	return defs
}

// read is the tree of a text.
func read(t *testing.T, text string) api.Doc {
	t.Helper()
	d, at, e := syntax.Parse(text)
	if e != api.OK {
		t.Fatalf("%q: %d at %d", text, e, at)
	}
	return d
}

// checks holds Check against the model, and tells what it answers.
func checks(t *testing.T, d api.Doc, defs []api.Def) []api.Errno {
	t.Helper()
	l := fields.Check(d, defs)
	if want := modelCheck(d, defs); !slices.Equal(l, want) {
		t.Errorf("%s\nof %s:\n%v, not %v", short(d), short(defs), l, want)
	}
	return l
}

// breaks holds Check of a tree against rules.
func breaks(t *testing.T, d api.Doc, defs []api.Def, rules ...api.Errno) {
	t.Helper()
	d, defs = copied(d), copied(defs)
	oldDoc, oldDefs := copied(d), copied(defs)
	if l := checks(t, d, defs); !slices.Equal(l, rules) {
		t.Errorf("%s: %v, not %v", short(d), l, rules)
	}
	if !reflect.DeepEqual(d, oldDoc) || !blank(reflect.ValueOf(d)) {
		t.Errorf("%s: was changed to %s", short(oldDoc), short(d))
	}
	if !reflect.DeepEqual(defs, oldDefs) || !blank(reflect.ValueOf(defs)) {
		t.Errorf("%s: was changed to %s", short(oldDefs), short(defs))
	}
}

// says holds Check of each text against rules.
func says(t *testing.T, defs []api.Def, rules []api.Errno, texts ...string) {
	t.Helper()
	for _, text := range texts {
		breaks(t, read(t, text), defs, rules...)
		if t.Failed() {
			t.Fatalf("%q", text)
		}
	}
}

// no: nothing is broken.
var no []api.Errno

func of(rules ...api.Errno) []api.Errno { return rules }

const chapter = "type T{a:Int! b:[T!]!}"

// P11.1: the chapter's examples.
func TestExamples(t *testing.T) {
	defs := types(t, chapter)
	says(t, defs, no, "{getT(id:1){a b{id}}}")
	says(t, defs, of(112), "{nope}")
	says(t, defs, of(113), "{getT(id:1)}")
	says(t, defs, of(112, 113), "{getT(id:1){a{b}}}")
	says(t, defs, of(116), "{getT{a}}", "{getT(id:null){a}}")
	says(t, defs, of(114, 115), "{getT(id:1,id:2,x:3){a}}")
	says(t, defs, of(110), "{a:__typename}{b:__typename}")
	says(t, defs, of(111), "subscription{a}")
	says(t, defs, of(117, 118), "query@skip(if:true){__typename@x}")
}

func TestErrors(t *testing.T) {
	l := []api.Errno{api.ErrOpName, api.ErrOpRoot, api.ErrFieldNone, api.ErrFieldLeaf, api.ErrArgNone, api.ErrArgTwice, api.ErrArgNeeded, api.ErrDirNone, api.ErrDirPlace, api.ErrDirTwice}
	for i, e := range l {
		if e != api.Errno(110+i) {
			t.Errorf("%d is %d", 110+i, e)
		}
	}
}

// P11.1, ErrOpName

func TestOpName(t *testing.T) {
	defs := types(t, chapter)
	says(t, defs, no,
		"{__typename}", "query{__typename}", "query a{__typename}", "mutation{__typename}",
		"query a{__typename} query b{__typename}", "query a{__typename} mutation A{__typename}",
		"query a{__typename} query b{__typename} mutation c{__typename}",
		"{__typename} fragment a on T{a}", "query a{__typename} fragment a on T{a} fragment a on T{b{a}}",
		"query Query{__typename} query T{__typename} mutation query{__typename}")
	says(t, defs, of(110),
		"{__typename}{__typename}", "{__typename} query a{__typename}", "query a{__typename} {__typename}", "query{__typename} mutation{__typename}",
		"query a{__typename} query a{__typename}", "query a{__typename} mutation a{__typename}",
		"query a{__typename} query b{__typename} query a{__typename}", "query b{__typename} query a{__typename} query a{__typename}",
		"query a{__typename} query b{__typename} mutation{__typename}")
	for _, d := range []api.Doc{{}, {Ops: []api.Op{}}, {Frags: []api.Frag{{}}}, {Frags: []api.Frag{{}, {}}}} {
		breaks(t, d, defs)
		breaks(t, d, nil)
	}
	// No text has such names, but trees may.
	for _, name := range []string{"a\x00", " ", "\xff", "é", "1", "{"} {
		breaks(t, api.Doc{Ops: []api.Op{{Name: name}}}, defs)
		breaks(t, api.Doc{Ops: []api.Op{{Name: name}, {Name: name + " "}}}, defs)
		breaks(t, api.Doc{Ops: []api.Op{{Name: name}, {Name: name}}}, defs, 110)
	}
}

// P11.1, ErrOpRoot

func TestOpRoot(t *testing.T) {
	defs := types(t, chapter)
	says(t, defs, no, "{__typename}", "mutation{__typename}", "query a{__typename} mutation b{__typename}")
	says(t, defs, of(111), "subscription{__typename}", "subscription a{b c{d}}", "query a{__typename} subscription b{a}", "subscription b{a} mutation a{__typename}")
	says(t, defs, of(110, 111), "subscription{a}{__typename}")
	for kind := -3; kind <= api.OpKinds+3; kind++ {
		rules := of(111)
		if kind == api.OpQuery || kind == api.OpMutation {
			rules = no
		}
		breaks(t, api.Doc{Ops: []api.Op{{Kind: kind}}}, defs, rules...)
		// Without a parent nothing is known of fields.
		breaks(t, api.Doc{Ops: []api.Op{{Kind: kind, Sels: []api.Sel{{Kind: api.SelInline, Sels: []api.Sel{{Kind: api.SelSpread}}}}}}}, defs, rules...)
	}
	breaks(t, api.Doc{Ops: []api.Op{{Kind: -1, Sels: []api.Sel{{Name: "x", Args: []api.Arg{{}}, Sels: []api.Sel{{Name: "y"}}}}}}}, defs, 111)
}

// Definitions without the roots, or with others of their names.
func TestOpRootDefs(t *testing.T) {
	query, mutation := api.Doc{Ops: []api.Op{{Kind: api.OpQuery}}}, api.Doc{Ops: []api.Op{{Kind: api.OpMutation}}}
	for kind := -2; kind <= api.DefKinds+1; kind++ {
		defs := []api.Def{{Name: "Query", Kind: kind}}
		rules := of(111)
		if kind == api.DefObject {
			rules = no
		}
		breaks(t, query, defs, rules...)
		breaks(t, mutation, defs, 111)
		breaks(t, query, append(defs, api.Def{Name: "Query", Kind: api.DefObject}), rules...)
		defs = []api.Def{{Name: "Mutation", Kind: kind}}
		breaks(t, query, defs, 111)
		breaks(t, mutation, defs, rules...)
		breaks(t, api.Doc{Ops: []api.Op{{Kind: api.OpSubscription}}}, []api.Def{{Name: "Subscription", Kind: kind}}, 111)
		breaks(t, api.Doc{Ops: []api.Op{{Kind: api.OpSubscription}}}, []api.Def{{Name: "", Kind: kind}}, 111)
	}
	breaks(t, query, nil, 111)
	breaks(t, mutation, []api.Def{}, 111)
	breaks(t, query, []api.Def{{Name: "query", Kind: api.DefObject}, {Name: "Query ", Kind: api.DefObject}}, 111)
	breaks(t, api.Doc{}, nil)
	breaks(t, api.Doc{Frags: []api.Frag{{On: "Query"}}}, nil)
}

// P11.1, ErrFieldNone

func TestFieldNone(t *testing.T) {
	defs := types(t, "enum E{A} type T{a:Int! e:E b:[T!]! u:U} type U{c:Float}")
	says(t, defs, no,
		"{getT(id:1){id a e b{id} u{c}}}", "{queryT{__typename b{__typename b{__typename}}}}", "mutation{addT(input:[]){a} deleteT(filter:{})}",
		"{...{queryT{...{...{a}}}}}", "{queryT{... on T{a ...{e}}}}", "{queryT{... on U{c}}}", "{...on T{a}}",
		"{__typename} fragment f on T{a} fragment g on U{c} fragment h on Query{queryU{c}}",
		"{__typename} fragment f on Nope{a b{c}}", "{...on Nope{x y{z}}}", "{... on Nope{...{x} ...{... on Nope{z}}}}",
		"{...nope}", "{queryT{...nope}}")
	says(t, defs, of(112),
		"{nope}", "{queryT{nope}}", "{queryT{Id}}", "{queryT{a c}}", "{getT(id:1){u{a}}}", "{queryT{a}queryU{a}}", "{id}", "{a}",
		"{addT(input:[]){a}}", "mutation{queryT{a}}", "mutation{id}",
		"{x:nope}", "{queryT{a:nope}}", "{queryT{a nope{x{y}}}}", "{nope(x:1)}",
		"{...{nope}}", "{queryT{...{...{nope}}}}", "{...on T{nope}}", "{... on T{...{nope}}}", "{queryT{... on U{a}}}", "{... on Nope{...on T{nope}}}", "{... on Nope{x{... on T{nope}}}}",
		"{__typename} fragment f on T{c}", "{__typename} fragment f on T{u{c} ...{nope}}", "{__typename} fragment f on T{a} fragment g on T{c}",
		"{... on Int{a}}", "{... on E{A}}", "{... on AddT{a}}", "{...on TFilter{...{not}}}", "{__typename} fragment f on Int{__typename}", "{__typename} fragment f on E{__typename}",
		"{__schema{x}}", "{__type}", "{queryT{__schema}}", "{__Typename}")
	says(t, defs, of(112, 113), "{__typename{x}}", "{queryT{a{b}}}", "{queryT{e{A}}}", "{queryT{b{id{__typename}}}}")
	// What stands in a field that has no Out is in a set without a parent.
	says(t, defs, of(112), "{nope{nope{nope(x:1){a}}}}", "{queryT{nope{...{b}}}}")
	// Nor has a set of a spread one, or of what is no selection.
	for _, kind := range []int{api.SelSpread, api.SelKinds, -1, 9} {
		inner := []api.Sel{{Name: "nope", Args: []api.Arg{{}}, Sels: []api.Sel{{Name: "x"}}}, {Kind: api.SelInline, Sels: []api.Sel{{Name: "y"}}}}
		x := api.Sel{Kind: kind, Name: "queryT", On: "T", Sels: inner}
		breaks(t, api.Doc{Ops: []api.Op{{Sels: []api.Sel{x}}}, Frags: []api.Frag{{On: "T", Sels: []api.Sel{x}}}}, defs)
		x.Sels = append(inner, api.Sel{Kind: api.SelInline, On: "T", Sels: []api.Sel{{Name: "nope"}}})
		breaks(t, api.Doc{Ops: []api.Op{{Sels: []api.Sel{x}}}}, defs, 112)
		x.Sels = append(inner, api.Sel{Directives: []api.Directive{{}}, Args: []api.Arg{{}, {}}})
		breaks(t, api.Doc{Ops: []api.Op{{Sels: []api.Sel{x}}}}, defs, 115, 117)
	}
}

// chain is a query's field in a field, and so on, by their names.
func chain(names ...string) api.Doc {
	var l []api.Sel
	for _, name := range slices.Backward(names) {
		l = []api.Sel{{Name: name, Sels: l}}
	}
	return api.Doc{Ops: []api.Op{{Sels: l}}}
}

// object is a definition, its fields called by their types.
func object(name string, outs ...string) api.Def {
	d := api.Def{Name: name, Kind: api.DefObject}
	for _, x := range outs {
		d.Outs = append(d.Outs, api.Out{Name: x, Type: api.Ref{Name: x}})
	}
	return d
}

// Which definition is a parent's, of any definitions.
func TestFieldNoneDefs(t *testing.T) {
	query := object("Query", "T")
	breaks(t, chain("T", "x"), []api.Def{query})
	breaks(t, chain("T"), []api.Def{query})
	breaks(t, chain("U"), []api.Def{query}, 112)
	for kind := -2; kind <= api.DefKinds+1; kind++ {
		d := object("T", "x")
		d.Kind = kind
		switch {
		case kind < 0:
			breaks(t, chain("T", "x"), []api.Def{query, d})
			breaks(t, chain("T", "y"), []api.Def{query, d})
			breaks(t, chain("T", "__typename"), []api.Def{query, d})
			breaks(t, chain("T"), []api.Def{query, d})
		case kind == api.DefObject:
			breaks(t, chain("T", "x"), []api.Def{query, d})
			breaks(t, chain("T", "y"), []api.Def{query, d}, 112)
			breaks(t, chain("T", "__typename"), []api.Def{query, d})
			breaks(t, chain("T"), []api.Def{query, d}, 113)
		default:
			breaks(t, chain("T", "x"), []api.Def{query, d}, 112, 113)
			breaks(t, chain("T", "__typename"), []api.Def{query, d}, 112, 113)
			breaks(t, chain("T"), []api.Def{query, d})
		}
		// The first of a name counts, also if it counts as none.
		if kind != api.DefObject {
			breaks(t, chain("T"), []api.Def{query, d, object("T", "x")})
		}
		breaks(t, chain("T", "x"), []api.Def{query, object("T", "x"), d})
	}
	breaks(t, chain("T", "x"), []api.Def{query, object("T"), object("T", "x")}, 112)
	breaks(t, chain("T", "T", "x"), []api.Def{query, object("T", "T"), query}, 112)
	// The first of a field's name counts, too.
	two := object("Query", "T", "U")
	two.Outs[1].Name = "T"
	breaks(t, chain("T", "U", "V"), []api.Def{two, object("T", "U"), object("U", "V")})
	breaks(t, chain("T", "V"), []api.Def{two, object("T", "U"), object("U", "V")}, 112)
}

// A definition without a name is one as others are: it is that of an empty parent.
func TestEmptyName(t *testing.T) {
	nameless := object("", "x")
	for _, kind := range []int{-1, api.OpSubscription} {
		d := chain("x")
		d.Ops[0].Kind = kind
		breaks(t, d, []api.Def{nameless}, 111)
		d.Ops[0].Sels[0].Name = "y"
		breaks(t, d, []api.Def{nameless}, 111, 112)
		breaks(t, d, []api.Def{{Kind: -1}}, 111)
		breaks(t, d, []api.Def{{Kind: api.DefKinds}}, 111, 112)
	}
	breaks(t, api.Doc{Frags: []api.Frag{{Sels: []api.Sel{{Name: "y"}}}}}, []api.Def{nameless}, 112)
	breaks(t, api.Doc{Frags: []api.Frag{{Sels: []api.Sel{{Name: "x"}}}}}, []api.Def{nameless})
	breaks(t, api.Doc{Frags: []api.Frag{{Sels: []api.Sel{{Name: ""}}}}}, []api.Def{nameless}, 112)
	breaks(t, api.Doc{Frags: []api.Frag{{Sels: []api.Sel{{Name: ""}}}}}, []api.Def{object("", "")}, 113)
	breaks(t, chain("nope", "y"), []api.Def{object("Query"), nameless}, 112)
}

// P11.1, ErrFieldLeaf

func TestFieldLeaf(t *testing.T) {
	defs := types(t, "enum E{A} type T{a:Int! e:E b:[T!]! u:U} type U{c:Float}")
	says(t, defs, no, "{__typename}", "{queryT{a e id __typename}}", "{getT(id:1){u{c}b{a}}}", "mutation{deleteT(filter:{})}", "mutation{updateT(filter:{},set:{}){a}}")
	says(t, defs, of(113),
		"{queryT}", "{getT(id:1)}", "{queryT{b}}", "{queryT{a u}}", "{queryT{u{c} b{b}}}", "mutation{addU(input:[])}",
		"{queryT{a{...{...f}}}}", "{queryT{id{...x}}}", "{queryT{e{...on T{a}}}}", "{__typename{...f}}", "mutation{deleteT(filter:{}){...f}}",
		"{...on T{b}}", "{__typename} fragment f on U{c{...f}}")
	says(t, defs, of(112, 113), "{queryT{a{x}}}", "{queryT{b nope}}")
	says(t, defs, of(112), "{queryT{nope{...f}}}", "{nope}", "{nope{...f}}")
	// Beside it only fields have an Out.
	says(t, defs, no, "{...queryT}", "{queryT{...b}}")
	for _, kind := range []int{api.SelSpread, api.SelInline, api.SelKinds, -1} {
		breaks(t, api.Doc{Ops: []api.Op{{Sels: []api.Sel{{Kind: kind, Name: "queryT"}}}}}, defs)
		breaks(t, api.Doc{Ops: []api.Op{{Sels: []api.Sel{{Kind: kind, Name: "__typename", Sels: []api.Sel{{Kind: kind}}}}}}}, defs)
	}
}

// A field whose type has no definition, `__typename` too, may have selections or none.
func TestFieldLeafDefs(t *testing.T) {
	for _, name := range []string{"T", "__typename"} {
		of := map[string]string{"T": "T", "__typename": "String"}[name]
		breaks(t, chain(name), []api.Def{object("Query", "T")})
		breaks(t, chain(name, "x"), []api.Def{object("Query", "T")})
		for kind := -2; kind <= api.DefKinds+1; kind++ {
			defs := []api.Def{object("Query", "T"), {Name: of, Kind: kind, Outs: object("", "x").Outs}}
			none, some := no, no
			if kind == api.DefObject {
				none = []api.Errno{113}
			} else if kind >= 0 {
				some = []api.Errno{112, 113}
			}
			breaks(t, chain(name), defs, none...)
			breaks(t, chain(name, "x"), defs, some...)
		}
	}
}

// P11.1, ErrArgNone, ErrArgTwice, ErrArgNeeded: of fields

func TestArgs(t *testing.T) {
	defs := types(t, chapter)
	says(t, defs, no,
		"{getT(id:1){a}}", "{getT(id:$x){a}}", "{getT(id:[null]){a}}", "{getT(id:\"\"){a}}", "{getT(id:{}){a}}", "{getT(id:NULL){a}}",
		"{queryT{a}}", "{queryT(first:1){a}}", "{queryT(offset:1,first:null,order:{},filter:{}){b(first:2){a}}}", "{queryT(filter:null){a}}",
		"mutation{updateT(set:{},filter:{}){a} addT(input:[]){a} deleteT(filter:{})}")
	says(t, defs, of(114),
		"{getT(id:1,x:2){a}}", "{queryT(id:1){a}}", "{queryT(x:null){a}}", "{queryT{a(x:1)}}", "{queryT{a(first:1)}}", "{__typename(a:1)}", "{queryT{b(first:1,last:1){a}}}", "{queryT{b{id(id:1)}}}", "{queryT(First:1){a}}",
		"{...{queryT{...{...on T{a(x:1)}}}}}", "{__typename} fragment f on T{a(x:1)}")
	says(t, defs, of(115),
		"{getT(id:1,id:1){a}}", "{getT(id:1,id:null){a}}", "{getT(id:null,id:1){a}}", "{queryT(first:1,offset:2,first:3){a}}", "{queryT(first:null,first:null){a}}", "{queryT{b(first:1,first:1,first:1){a}}}")
	says(t, defs, of(116),
		"{getT{a}}", "{getT(id:null){a}}", "mutation{addT{a}}", "mutation{updateT(filter:{}){a}}", "mutation{updateT(set:{}){a}}", "mutation{updateT(set:null,filter:null){a}}", "mutation{deleteT}", "mutation{deleteT(filter:null)}",
		"{__typename} fragment f on Query{getT{a}}", "{... on Mutation{deleteT}}", "{getT(id:1){a} b:getT{a}}")
	says(t, defs, of(114, 115), "{queryT(x:1,x:2){a}}", "{getT(id:1,x:1,x:1){a}}")
	says(t, defs, of(114, 116), "{getT(ID:1){a}}", "{getT(x:1){a}}", "{getT(id:null,x:1){a}}")
	says(t, defs, of(115, 116), "{getT(id:null,id:null){a}}")
	says(t, defs, of(114, 115, 116), "{getT(x:1,x:1){a}}")
	// Of a field without an Out only what is twice is told.
	says(t, defs, of(112), "{nope(x:1)}", "{queryT{nope(id:null)}}")
	says(t, defs, of(112, 115), "{nope(x:1,x:2)}", "{queryT{nope(a:1,b:1,a:1)}}")
	says(t, defs, no, "{...on Nope{getT(x:1){a(y:1)}}}")
	says(t, defs, of(115), "{...on Nope{getT(x:1,x:2)}}", "{...on Nope{x{y(b:1,a:2,b:3)}}}")
}

// Arguments stand at trees where no text has them.
func TestArgsAnywhere(t *testing.T) {
	defs := types(t, chapter)
	for kind := -1; kind <= api.SelKinds+1; kind++ {
		if kind == api.SelField {
			continue
		}
		x := api.Sel{Kind: kind, Name: "getT", Args: []api.Arg{{Name: "x"}, {Name: "y"}}}
		breaks(t, api.Doc{Ops: []api.Op{{Sels: []api.Sel{x}}}}, defs)
		x.Args[1].Name = "x"
		breaks(t, api.Doc{Ops: []api.Op{{Sels: []api.Sel{x}}}}, defs, 115)
		breaks(t, api.Doc{Ops: []api.Op{{Sels: []api.Sel{{Kind: kind, Sels: []api.Sel{x}}}}}}, defs, 115)
		breaks(t, api.Doc{Frags: []api.Frag{{Sels: []api.Sel{x}}}}, defs, 115)
		x.Args = []api.Arg{{}, {}}
		breaks(t, api.Doc{Ops: []api.Op{{Sels: []api.Sel{x}}}}, nil, 111, 115)
	}
}

// Of what kind of value an argument is given: all but ValNull, also those that are none.
func TestArgKinds(t *testing.T) {
	defs := types(t, chapter)
	for kind := -2; kind <= api.ValKinds+2; kind++ {
		v := api.Value{Kind: kind, Text: "null"}
		rules := no
		if kind == api.ValNull {
			rules = of(116)
		}
		x := api.Sel{Name: "getT", Args: []api.Arg{{Name: "id", Value: v}}, Sels: []api.Sel{{Name: "a"}}}
		breaks(t, api.Doc{Ops: []api.Op{{Sels: []api.Sel{x}}}}, defs, rules...)
		x = api.Sel{Name: "__typename", Directives: []api.Directive{{Name: "skip", Args: []api.Arg{{Name: "if", Value: v}}}}}
		breaks(t, api.Doc{Ops: []api.Op{{Sels: []api.Sel{x}}}}, defs, rules...)
	}
}

// Which arguments are needed, of any Wraps, and of more than one of a name.
func TestArgNeededDefs(t *testing.T) {
	given, null := api.Value{Kind: api.ValVar}, api.Value{}
	check := func(ins []api.In, args []api.Arg, rules ...api.Errno) {
		t.Helper()
		d := api.Def{Name: "Query", Kind: api.DefObject, Outs: []api.Out{{Name: "x", Args: ins}}}
		breaks(t, api.Doc{Ops: []api.Op{{Sels: []api.Sel{{Name: "x", Args: args}}}}}, []api.Def{d}, rules...)
	}
	for wraps, needed := range map[string]bool{"": false, "!": true, "[": false, "![": false, "[!": true, "![!": true, "!!": true, "?": false, "!?": false, "?!": true, "! ": false, "\xff!": true, "!\x00": false} {
		rules := no
		if needed {
			rules = of(116)
		}
		ins := []api.In{{Name: "a", Type: api.Ref{Name: "!", Wraps: wraps}}}
		check(ins, nil, rules...)
		check(ins, []api.Arg{}, rules...)
		check(ins, []api.Arg{{Name: "a", Value: null}}, rules...)
		check(ins, []api.Arg{{Name: "a", Value: given}})
		check(ins, []api.Arg{{Name: "a!", Value: given}}, append(of(114), rules...)...)
	}
	must, may := api.Ref{Wraps: "!"}, api.Ref{}
	for _, ins := range [][]api.In{{{Name: "a", Type: must}, {Name: "a", Type: may}}, {{Name: "a", Type: may}, {Name: "a", Type: must}}} {
		check(ins, nil, 116)
		check(ins, []api.Arg{{Name: "a", Value: given}})
		check(ins, []api.Arg{{Name: "a", Value: null}, {Name: "a", Value: given}}, 115)
		check(ins, []api.Arg{{Name: "a", Value: null}, {Name: "a", Value: null}}, 115, 116)
	}
	ins := []api.In{{Name: "a", Type: must}, {Name: "", Type: must}, {Name: "c", Type: may}}
	check(ins, []api.Arg{{Name: "a", Value: given}}, 116)
	check(ins, []api.Arg{{Name: "", Value: given}, {Name: "a", Value: given}})
	check(ins, []api.Arg{{Name: "", Value: given}, {Name: "c", Value: given}}, 116)
	check(ins, []api.Arg{{Name: "", Value: null}, {Name: "a", Value: given}}, 116)
	check(nil, []api.Arg{{}}, 114)
}

// P11.1, directives: at each of the four places

func TestDirectives(t *testing.T) {
	defs := types(t, chapter)
	chosen := func(directives string, rules []api.Errno) {
		t.Helper()
		says(t, defs, rules, "{__typename"+directives+"}", "{queryT"+directives+"{a}}", "{...f"+directives+"}", "{..."+directives+"{__typename}}", "{...on Query"+directives+"{__typename}}",
			"{queryT{...{b{a"+directives+"}}}}", "mutation{...on Nope{x{y{...f"+directives+"}}}}", "{nope:__typename}fragment f on T{b{...f"+directives+"}}", "{__typename}fragment f on Nope{x"+directives+"}")
	}
	places := func(directives string, rules []api.Errno, defining []api.Errno) {
		t.Helper()
		chosen(directives, rules)
		says(t, defs, defining, "query"+directives+"{__typename}", "mutation a"+directives+"{__typename}", "query a{__typename} query b"+directives+"{__typename}",
			"query($a:Int"+directives+"){__typename}", "query($a:Int,$b:[Int!]!=[]"+directives+",$c:T){__typename}",
			"{__typename} fragment f on T"+directives+"{a}", "{__typename} fragment f on T{a} fragment g on Nope"+directives+"{a}")
	}
	for _, name := range []string{"skip", "include"} {
		other := map[string]string{"skip": "include", "include": "skip"}[name]
		places("@"+name+"(if:true)", no, of(118))
		chosen("@"+name+"(if:$a)", no)
		places("@"+name+"(if:1)", no, of(118))
		places("@"+name+"(if:true)@"+other+"(if:false)", no, of(118))
		places("@"+name, of(116), of(116, 118))
		places("@"+name+"(if:null)", of(116), of(116, 118))
		places("@"+name+"(x:1)", of(114, 116), of(114, 116, 118))
		places("@"+name+"(If:true)", of(114, 116), of(114, 116, 118))
		places("@"+name+"(if:true,x:1)", of(114), of(114, 118))
		places("@"+name+"(if:true,if:true)", of(115), of(115, 118))
		places("@"+name+"(if:null,if:true)", of(115), of(115, 118))
		places("@"+name+"(if:null,if:null)", of(115, 116), of(115, 116, 118))
		places("@"+name+"(x:1,x:1)", of(114, 115, 116), of(114, 115, 116, 118))
		places("@"+name+"(if:true)@"+name+"(if:true)", of(119), of(118, 119))
		places("@"+name+"(if:true)@"+other+"(if:true)@"+name+"(if:false)", of(119), of(118, 119))
		places("@"+name+"(if:true)@"+name, of(116, 119), of(116, 118, 119))
		places("@"+name+"(if:true)@x", of(117), of(117, 118))
		places("@x@"+name+"(if:true)@"+name+"(if:true)", of(117, 119), of(117, 118, 119))
	}
	for _, name := range []string{"x", "Skip", "skips", "if", "deprecated", "specifiedBy", "on", "include_"} {
		places("@"+name, of(117), of(117))
		places("@"+name+"(x:1,y:null)", of(117), of(117))
		places("@"+name+"(if:true)", of(117), of(117))
		places("@"+name+"@"+name, of(117), of(117))
		places("@"+name+"(x:1,x:1)", of(115, 117), of(115, 117))
	}
}

// A directive twice is told only where both stand at one place.
func TestDirTwicePlaces(t *testing.T) {
	defs := types(t, chapter)
	says(t, defs, no, "{queryT@skip(if:true){a@skip(if:true) b@skip(if:true){id@skip(if:true)}}}", "{__typename@skip(if:true) __typename@skip(if:true)}", "{...f@include(if:true) ...f@include(if:true)} fragment f on Query{__typename@include(if:true)}")
	says(t, defs, of(118), "query($a:Int@skip(if:true)$b:Int@skip(if:true))@skip(if:true){__typename@skip(if:true)} fragment f on T@skip(if:true){a@skip(if:true)}")
}

// Directives that no text has, at selections of any kind.
func TestDirectivesAnywhere(t *testing.T) {
	for kind := -1; kind <= api.SelKinds+1; kind++ {
		check := func(l []api.Directive, rules ...api.Errno) {
			t.Helper()
			breaks(t, api.Doc{Frags: []api.Frag{{Sels: []api.Sel{{Kind: kind, Directives: l}}}}}, nil, rules...)
			breaks(t, api.Doc{Frags: []api.Frag{{Sels: []api.Sel{{Kind: kind, Sels: []api.Sel{{Kind: kind, Directives: l}}}}}}}, nil, rules...)
		}
		on := []api.Arg{{Name: "if", Value: api.Value{Kind: api.ValTrue}}}
		check(nil)
		check([]api.Directive{})
		check([]api.Directive{{}}, 117)
		check([]api.Directive{{}, {}}, 117)
		check([]api.Directive{{Name: "skip", Args: on}})
		check([]api.Directive{{Name: "skip", Args: on}, {Name: "skip", Args: on}}, 119)
		check([]api.Directive{{Name: "skip\x00", Args: on}, {Name: "skip", Args: on}}, 117)
		check([]api.Directive{{Name: "skip", Args: append(on, api.Arg{})}}, 114)
		check([]api.Directive{{Name: "skip", Args: []api.Arg{}}}, 116)
	}
}

// P11.1: several rules at once are told by rising numbers, each once.
func TestAll(t *testing.T) {
	defs := types(t, chapter)
	all := of(110, 111, 112, 113, 114, 115, 116, 117, 118, 119)
	says(t, defs, all,
		"query a@skip@skip{getT(x:1,x:2)@y nope} subscription a{b}",
		"{__typename@skip(if:1)@skip(if:2)@z} subscription b@include(x:1,x:1){__typename} query c{queryT nope}",
		"{queryT nope queryT nope getT getT}query@x@x@skip@skip{a(a:1,a:2)b(a:1,a:2)}subscription($a:Int@skip(x:1,x:1)@skip){a}fragment f on T@x{x y z}",
		"subscription@skip{x(x:1,x:1)} query{getT@skip(y:1)@skip nope@x}")
	says(t, defs, of(110, 112, 114, 116, 118), "{nope} query a@skip(x:1){__typename}")
	says(t, defs, of(111, 113, 115, 117, 119), "subscription{a(b:1,b:1)@c} fragment f on T{b@skip(if:1)@skip(if:1)}")
	breaks(t, read(t, "{queryT nope queryT nope getT getT}"), nil, 111)
}
