package valid_test

import (
	"fmt"
	"reflect"
	"slices"
	"testing"

	"rhizome/api"
	"rhizome/fields"
	"rhizome/frags"
	"rhizome/gen"
	"rhizome/merge"
	"rhizome/samples"
	"rhizome/sdl"
	"rhizome/syntax"
	"rhizome/valid"
	"rhizome/values"
)

// copied is a value in memory of its own, with room behind each list; a list that is not there is empty.
func copied[T any](x T) T {
	var y T
	copyInto(reflect.ValueOf(&y).Elem(), reflect.ValueOf(x))
	return y
}

func copyInto(to, from reflect.Value) {
	switch from.Kind() {
	case reflect.Slice:
		to.Set(reflect.MakeSlice(from.Type(), from.Len(), from.Len()+2))
		for i := range from.Len() {
			copyInto(to.Index(i), from.Index(i))
		}
	case reflect.Struct:
		for i := range from.NumField() {
			copyInto(to.Field(i), from.Field(i))
		}
	default:
		to.Set(from)
	}
}

// blank: is nothing in the room behind each list?
func blank(v reflect.Value) bool {
	switch v.Kind() {
	case reflect.Slice:
		all := v.Slice(0, v.Cap())
		for i := range all.Len() {
			if i < v.Len() && !blank(all.Index(i)) || i >= v.Len() && !all.Index(i).IsZero() {
				return false
			}
		}
	case reflect.Struct:
		for i := range v.NumField() {
			if !blank(v.Field(i)) {
				return false
			}
		}
	}
	return true
}

// untouched is a copy of a value, and says whether that copy is as it was.
func untouched[T any](t *testing.T, x T) (T, func()) {
	y := copied(x)
	return y, func() {
		t.Helper()
		if !reflect.DeepEqual(y, copied(x)) || !blank(reflect.ValueOf(&y).Elem()) {
			t.Errorf("%s: was changed to %s", short(x), short(y))
		}
	}
}

// short is how a test writes a value that may be long.
func short(x any) string { return fmt.Sprintf("%.2000s", fmt.Sprint(x)) }

// types are the definitions of a schema's text.
func types(t *testing.T, text string) []api.Def {
	t.Helper()
	s, at, e := sdl.Parse(text)
	if e != api.OK {
		t.Fatalf("%q: %d at %d", text, e, at)
	}
	defs, e := gen.Types(s)
	if e != api.OK {
		t.Fatalf("%q: %d", text, e)
	}
	return defs
}

// read is the tree of a text.
func read(t *testing.T, text string) api.Doc {
	t.Helper()
	d, at, e := syntax.Parse(text)
	if e != api.OK {
		t.Fatalf("%q: %d at %d", text, e, at)
	}
	return d
}

// checks holds Check against what the four layers tell, and tells what it answers.
func checks(t *testing.T, d api.Doc, defs []api.Def) []api.Errno {
	t.Helper()
	l := valid.Check(d, defs)
	var want []api.Errno
	for _, check := range []func(api.Doc, []api.Def) []api.Errno{fields.Check, frags.Check, values.Check, merge.Check} {
		for _, e := range check(d, defs) {
			want = append(want, e)
		}
	}
	if !slices.Equal(l, want) {
		t.Errorf("%s\nof %s:\n%v, not %v", short(d), short(defs), l, want)
	}
	for i, e := range l {
		if i > 0 && e <= l[i-1] || !slices.Contains(all(), e) {
			t.Errorf("%s\nof %s:\n%v: %d is no rule or stands in no order", short(d), short(defs), l, e)
		}
	}
	return l
}

// all are the rules' numbers.
func all() []api.Errno {
	var l []api.Errno
	for _, block := range [][2]api.Errno{{110, 119}, {120, 126}, {130, 138}, {140, 140}} {
		for e := block[0]; e <= block[1]; e++ {
			l = append(l, e)
		}
	}
	return l
}

// breaks holds Check of a tree against rules.
func breaks(t *testing.T, d api.Doc, defs []api.Def, rules ...api.Errno) {
	t.Helper()
	d, doc := untouched(t, d)
	defs, types := untouched(t, defs)
	if l := checks(t, d, defs); !slices.Equal(l, rules) {
		t.Errorf("%s: %v, not %v", short(d), l, rules)
	}
	doc()
	types()
}

// says holds Check of each text against rules.
func says(t *testing.T, defs []api.Def, rules []api.Errno, texts ...string) {
	t.Helper()
	for _, text := range texts {
		breaks(t, read(t, text), defs, rules...)
		if t.Failed() {
			t.Fatalf("%q", text)
		}
	}
}

func of(rules ...api.Errno) []api.Errno { return rules }

const (
	chapter = "type T{a:Int! b:[T!]!}"
	wide    = "enum E{A B} type T{a:Int! b:[T!]! c:T e:E u:U} type U{a:Int! x:Float t:T}"
)

// P15.1, P15.2: the chapter's examples.
func TestExamples(t *testing.T) {
	defs := types(t, chapter)
	text := "query A{queryT{...f}} query B{__typename} fragment f on T{a}"
	says(t, defs, nil, text)
	picks(t, read(t, text), "B", 1, api.OK)
	picks(t, read(t, text), "", 0, api.ErrValidPick)
	says(t, defs, of(124, 130, 140), "{getT(id:1.5){x:a x:id ...g}}")
}

func TestErrors(t *testing.T) {
	if api.ErrValidPick != 150 {
		t.Error(api.ErrValidPick)
	}
	for i, e := range []api.Errno{api.ErrOpName, api.ErrOpRoot, api.ErrFieldNone, api.ErrFieldLeaf, api.ErrArgNone, api.ErrArgTwice, api.ErrArgNeeded, api.ErrDirNone, api.ErrDirPlace, api.ErrDirTwice, api.ErrFragTwice, api.ErrFragType, api.ErrFragKind, api.ErrFragUnused, api.ErrFragNone, api.ErrFragCycle, api.ErrFragSpread, api.ErrValueType, api.ErrInputNone, api.ErrInputTwice, api.ErrInputNeed, api.ErrVarTwice, api.ErrVarType, api.ErrVarNone, api.ErrVarUnused, api.ErrVarWhere, api.ErrMerge} {
		if e != all()[i] {
			t.Errorf("%d, not %d", e, all()[i])
		}
	}
}

// P15.1: documents that break no rule.
func TestValid(t *testing.T) {
	says(t, types(t, wide), nil,
		"{__typename}", "query{__typename}", "query a{__typename} mutation b{__typename}", "{queryT{id a b{id a} c{a} e u{x t{a}}}}", "{getT(id:1){a b{id}} x:getT(id:\"2\"){__typename}}", "{queryT(filter:{a:{eq:1}},order:{asc:a},first:1,offset:2){a}}",
		"mutation{addT(input:[{a:1,e:A},{a:2,b:[1,2]}]){id} deleteU(filter:{id:[1]})}", "mutation($i:[ID!]=[1],$p:PatchT!){updateT(filter:{id:$i},set:$p){a}}", "query($s:Boolean!,$n:Int=3){queryT(first:$n)@skip(if:$s)@include(if:true){...@skip(if:$s){a}...on T@include(if:$s){a}...f@skip(if:false)}} fragment f on T{c{...g}} fragment g on T{a e}",
		"{queryT{a a x:a x:a c{a} c{id} ...f ...f}} fragment f on T{a c{a id ...g}} fragment g on T{a}",
	)
	breaks(t, api.Doc{}, nil)
	breaks(t, api.Doc{}, types(t, wide))
	breaks(t, api.Doc{Ops: []api.Op{}, Frags: []api.Frag{}}, []api.Def{})
	breaks(t, api.Doc{Ops: []api.Op{{}}}, types(t, wide))
}

// broken is a document and the rules that it breaks.
type broken struct {
	api.Doc
	rules []api.Errno
}

// alone has for each rule a document that breaks it, and no other one or, where that can't be, none of another layer. They may stand beside one another.
func alone(t *testing.T) []broken {
	t.Helper()
	var l []broken
	for _, x := range []struct {
		text  string
		rules []api.Errno
	}{
		{"query same{__typename} query same{__typename}", of(110)},
		{"subscription q111{a}", of(111)},
		{"query q112{nope}", of(112)},
		{"query q113{getT(id:1)}", of(113)},
		{"query q114{getT(id:1,x:1){a}}", of(114)},
		{"query q115{getT(id:1,id:2){a}}", of(115)},
		{"query q116{getT{a}}", of(116)},
		{"query q117{__typename@nope}", of(117)},
		{"query q118@skip(if:true){__typename}", of(118)},
		{"query q119{__typename@skip(if:true)@skip(if:true)}", of(119)},
		{"query q120{queryT{...f120}} fragment f120 on T{a} fragment f120 on T{id}", of(120)},
		{"query q121{...on Nope{a}}", of(121)},
		{"query q122{...on Int{...on T{a}}}", of(122)},
		{"fragment f123 on T{a}", of(123)},
		{"query q124{...f124}", of(124)},
		{"query q125{queryT{...f125}} fragment f125 on T{b{...f125}}", of(125)},
		{"query q126{...on T{a}}", of(126)},
		{"query q130{getT(id:1.5){a}}", of(130)},
		{"query q131{queryT(filter:{x:1}){a}}", of(131)},
		{"query q132{queryT(filter:{id:[1],id:[2]}){a}}", of(132)},
		{"mutation q133{addT(input:{}){a}}", of(133)},
		{"query q134($a:ID!,$a:ID!){getT(id:$a){a}}", of(134)},
		{"query q135($a:Nope){__typename}", of(135, 137)},
		{"query q135T($a:[T!]!){__typename}", of(135, 137)},
		{"query q136{getT(id:$a){a}}", of(136)},
		{"query q137($a:ID!){__typename}", of(137)},
		{"query q138($a:ID){getT(id:$a){a}}", of(138)},
		{"query q140{queryT{x:a x:id}}", of(140)},
	} {
		l = append(l, broken{read(t, x.text), x.rules})
	}
	return l
}

// together is one document of several, and all rules that these break.
func together(l ...broken) broken {
	var all broken
	for _, x := range l {
		all.Ops, all.Frags = append(all.Ops, x.Ops...), append(all.Frags, x.Frags...)
		all.rules = append(all.rules, x.rules...)
	}
	slices.Sort(all.rules)
	all.rules = slices.Compact(all.rules)
	return all
}

// P15.1: documents that break rules of one layer alone: each rule is told somewhere.
func TestOneLayer(t *testing.T) {
	defs := types(t, wide)
	docs := alone(t)
	for _, x := range docs {
		breaks(t, x.Doc, defs, x.rules...)
		if first, last := x.rules[0], x.rules[len(x.rules)-1]; first/10 != last/10 {
			t.Errorf("%v", x.rules)
		}
	}
	if told := together(docs...).rules; !slices.Equal(told, all()) {
		t.Errorf("%v", told)
	}
	says(t, defs, of(110, 111, 112, 113, 114, 115, 116, 117, 118, 119), "{nope getT queryT(x:1,x:1){a@nope} __typename@skip(if:true)@skip(if:true)} subscription@skip(if:true){a}")
	says(t, defs, of(120, 121, 122, 123, 124, 125, 126), "{...on Nope{x} ...on Int{...x} ...on T{a} ...g ...f} fragment f on Query{...f} fragment h on T{a} fragment h on T{id}")
	says(t, defs, of(130, 131, 132, 133, 134, 135, 136, 137, 138), "query q($a:Nope,$a:Int,$b:ID){getT(id:1.5){a} x:getT(id:$b){a} queryT(filter:{x:1,x:1},first:$c){a}} mutation b{addT(input:{}){a}}")
}

// P15.1: documents that break rules of several layers: all pairs and triples of what breaks one, all but one and but two, in both orders, and others.
func TestLayersTogether(t *testing.T) {
	defs := types(t, wide)
	docs := alone(t)
	ask := func(l ...broken) {
		for range 2 {
			x := together(l...)
			if got := checks(t, x.Doc, defs); !slices.Equal(got, x.rules) {
				t.Fatalf("%s: %v, not %v", short(x.Doc), got, x.rules)
			}
			slices.Reverse(l)
		}
	}
	but := func(i, j int) []broken {
		var l []broken
		for at, x := range docs {
			if at != i && at != j {
				l = append(l, x)
			}
		}
		return l
	}
	ask(docs...)
	for i, x := range docs {
		ask(x, docs[0])
		for j, y := range docs[:i] {
			ask(x, y)
			ask(but(i, j)...)
			for _, z := range docs[:j] {
				ask(x, y, z)
			}
		}
	}
	for _, bits := range samples.Spread(2000) {
		var l []broken
		for i, x := range docs {
			if bits>>i&1 == 1 {
				l = append(l, x)
			}
		}
		ask(l...)
	}
}

// P15.1: what breaks rules of several layers may stand in one set, even in one selection.
func TestOneSet(t *testing.T) {
	defs := types(t, wide)
	pieces := []broken{{read(t, "{nope getT}"), of(112, 113, 116)}, {read(t, "{...nope ...on T{a}}"), of(124, 126)}, {read(t, "{y:getT(id:1.5){a} z:getT(id:$z){a}}"), of(130, 136)}, {read(t, "{x:queryT{a} x:getT(id:1){a}}"), of(140)}}
	for bits := range 1 << len(pieces) {
		op := api.Op{Sels: []api.Sel{{Name: "__typename"}}}
		var rules []api.Errno
		for i, x := range pieces {
			if bits>>i&1 == 1 {
				op.Sels = append(op.Sels, x.Ops[0].Sels...)
				rules = append(rules, x.rules...)
			}
		}
		breaks(t, api.Doc{Ops: []api.Op{op}}, defs, rules...)
	}
	says(t, defs, of(110, 112), "{x}{y}")
	says(t, defs, of(115, 132), "{getT(id:1,id:1,id:2){a} queryT(filter:{not:{id:1,id:1}}){a}}")
	says(t, defs, of(115, 130, 140), "{getT(id:1,id:1.5){a} getT(id:1,id:2){a}}")
	says(t, defs, of(113, 122, 140), "{queryT{a{...on Int{...on U{a}}} ...on T{a}} queryT(first:1){id}}")
	says(t, defs, of(112, 117, 121, 123, 125, 136), "{...f __typename@x(a:$b) nope} fragment f on Nope{...f} fragment g on T{a}")
}
