package values_test

import (
	"fmt"
	"reflect"
	"slices"
	"strings"
	"testing"

	"rhizome/api"
	"rhizome/gen"
	"rhizome/sdl"
	"rhizome/syntax"
	"rhizome/values"
)

// copied is a value in memory of its own, with room behind each list; a list that is not there is empty.
func copied[T any](x T) T {
	var y T
	copyInto(reflect.ValueOf(&y).Elem(), reflect.ValueOf(x))
	return y
}

func copyInto(to, from reflect.Value) {
	switch from.Kind() {
	case reflect.Slice:
		to.Set(reflect.MakeSlice(from.Type(), from.Len(), from.Len()+2))
		for i := range from.Len() {
			copyInto(to.Index(i), from.Index(i))
		}
	case reflect.Struct:
		for i := range from.NumField() {
			copyInto(to.Field(i), from.Field(i))
		}
	default:
		to.Set(from)
	}
}

// blank: is nothing in the room behind each list?
func blank(v reflect.Value) bool {
	switch v.Kind() {
	case reflect.Slice:
		all := v.Slice(0, v.Cap())
		for i := range all.Len() {
			if i < v.Len() && !blank(all.Index(i)) || i >= v.Len() && !all.Index(i).IsZero() {
				return false
			}
		}
	case reflect.Struct:
		for i := range v.NumField() {
			if !blank(v.Field(i)) {
				return false
			}
		}
	}
	return true
}

// untouched is a copy of a value, and says whether that copy is as it was.
func untouched[T any](t *testing.T, x T) (T, func()) {
	y := copied(x)
	return y, func() {
		t.Helper()
		if !reflect.DeepEqual(y, copied(x)) || !blank(reflect.ValueOf(&y).Elem()) {
			t.Errorf("%s: was changed to %s", short(x), short(y))
		}
	}
}

// short is how a test writes a value that may be long.
func short(x any) string { return fmt.Sprintf("%.2000s", fmt.Sprint(x)) }

// types are the definitions of a schema's text.
func types(t *testing.T, text string) []api.Def {
	t.Helper()
	s, at, e := sdl.Parse(text)
	if e != api.OK {
		t.Fatalf("%q: %d at %d", text, e, at)
	}
	defs, e := gen.Types(s)
	if e != api.OK {
		t.Fatalf("%q: %d", text, e)
	}
	return defs
}

// read is the tree of a text.
func read(t *testing.T, text string) api.Doc {
	t.Helper()
	d, at, e := syntax.Parse(text)
	if e != api.OK {
		t.Fatalf("%q: %d at %d", text, e, at)
	}
	return d
}

// value is the one of a text.
func value(t *testing.T, text string) api.Value {
	t.Helper()
	return read(t, "{a(b:"+text+")}").Ops[0].Sels[0].Args[0].Value
}

// ref is the type of a text.
func ref(t *testing.T, text string) api.Ref {
	t.Helper()
	return read(t, "query($a:"+text+"){a}").Ops[0].Vars[0].Type
}

// checks holds Check against the model, and tells what it answers.
func checks(t *testing.T, d api.Doc, defs []api.Def) []api.Errno {
	t.Helper()
	l := values.Check(d, defs)
	if want := modelCheck(d, defs); !slices.Equal(l, want) {
		t.Errorf("%s\nof %s:\n%v, not %v", short(d), short(defs), l, want)
	}
	return l
}

// breaks holds Check of a tree against rules.
func breaks(t *testing.T, d api.Doc, defs []api.Def, rules ...api.Errno) {
	t.Helper()
	d, doc := untouched(t, d)
	defs, types := untouched(t, defs)
	if l := checks(t, d, defs); !slices.Equal(l, rules) {
		t.Errorf("%s: %v, not %v", short(d), l, rules)
	}
	doc()
	types()
}

// says holds Check of each text against rules.
func says(t *testing.T, defs []api.Def, rules []api.Errno, texts ...string) {
	t.Helper()
	for _, text := range texts {
		breaks(t, read(t, text), defs, rules...)
		if t.Failed() {
			t.Fatalf("%q", text)
		}
	}
}

// no: nothing is broken.
var no []api.Errno

func of(rules ...api.Errno) []api.Errno { return rules }

const (
	chapter = "type T{a:Int! b:[T!]!}"
	wide    = "enum E{A B} type T{a:Int! b:[T!]! e:E f:Float s:String o:Boolean! u:U} type U{c:Float e:E! us:[U!]!}"
)

// P13.1: the chapter's examples.
func TestExamples(t *testing.T) {
	defs := types(t, chapter)
	says(t, defs, no, "query($i:ID!){getT(id:$i){b(filter:{a:{eq:1}}){a}}}")
	says(t, defs, of(130), "{getT(id:1.5){a}}")
	says(t, defs, of(131, 132), "{queryT(filter:{x:1,x:2}){a}}")
	says(t, defs, of(133), "mutation{addT(input:{}){a}}")
	says(t, defs, of(138), "query($i:ID){getT(id:$i){a}}")
	says(t, defs, no, "query($i:ID=1){getT(id:$i){a}}")
	says(t, defs, of(134, 135, 137), "query($a:T,$a:Nope){__typename}")
	says(t, defs, of(136), "{getT(id:$x){a}}")
}

func TestErrors(t *testing.T) {
	l := []api.Errno{api.ErrValueType, api.ErrInputNone, api.ErrInputTwice, api.ErrInputNeed, api.ErrVarTwice, api.ErrVarType, api.ErrVarNone, api.ErrVarUnused, api.ErrVarWhere}
	for i, e := range l {
		if e != api.Errno(130+i) {
			t.Errorf("%d is %d", 130+i, e)
		}
	}
}

// P13.2: without variables, arguments and directives nothing is broken.
func TestBare(t *testing.T) {
	defs := types(t, wide)
	says(t, defs, no, "{__typename}", "{getT{a}}", "query x{queryT{b{a}}} mutation y{addT{a} deleteT} subscription z{a{b}}", "{nope{nope}}", "{...f} fragment f on T{...f}", "{...on Nope{x}}")
	for _, d := range []api.Doc{{}, {Ops: []api.Op{}, Frags: []api.Frag{}}, {Ops: []api.Op{{}}}, {Ops: []api.Op{{Kind: -1}, {Kind: 9}}}, {Frags: []api.Frag{{}, {}}}} {
		breaks(t, d, defs)
		breaks(t, d, nil)
		breaks(t, d, []api.Def{{}, {}})
	}
}

// P13.1, ErrValueType

func TestValueType(t *testing.T) {
	defs := types(t, wide)
	says(t, defs, no,
		"{getT(id:1){a}}", "{getT(id:\"x\"){a}}", "{queryT(first:1,offset:-1,filter:{},order:null){a}}", "{queryT(filter:null,order:{asc:a,then:{desc:id}}){b(first:2147483647){a}}}",
		"{queryT(filter:{and:[{a:{eq:1}},{e:{in:[A,B]}}],or:{f:{lt:1.5}},not:{s:{begins:\"\"}},id:[1,\"2\"]}){a}}", "mutation{addT(input:[{a:1,o:true},{a:2,o:false,b:[1],u:1,e:null}]){a}}", "mutation{addT(input:{a:1,o:true}){a} deleteT(filter:{id:1})}", "mutation{updateT(filter:{},set:{a:null,b:null,e:B}){a}}",
		"{...f} fragment f on Query{getT(id:1){b(first:1){a}}}", "{queryT{...{b(first:1){a}} ...on T{b(offset:1){a}}}}")
	says(t, defs, of(130),
		"{getT(id:true){a}}", "{getT(id:null){a}}", "{getT(id:A){a}}", "{getT(id:[1]){a}}", "{queryT(first:1.0){a}}", "{queryT(first:\"1\"){a}}", "{queryT(offset:2147483648){a}}", "{queryT(filter:[]){a}}", "{queryT(filter:1){a}}", "{queryT(order:{asc:x}){a}}", "{queryT(order:{then:{desc:\"a\"}}){a}}",
		"{queryT(filter:{a:{eq:1.5}}){a}}", "{queryT(filter:{and:[{},{a:{in:[1,null]}}]}){a}}", "{queryT(filter:{and:[null]}){a}}", "{queryT(filter:{e:{eq:C}}){a}}", "{queryT(filter:{or:{not:{not:{f:{lt:A}}}}}){a}}",
		"mutation{addT(input:null){a}}", "mutation{addT(input:[null]){a}}", "mutation{addT(input:[{a:1,o:true},{a:null,o:true}]){a}}", "mutation{updateT(filter:{},set:null){a}}",
		"{queryT{b(first:true){a}}}", "{queryT{...{...on T{b(first:true){a}}}}}", "{...f} fragment f on T{b(first:A){a}}", "{queryT{a}} fragment f on T{b(first:A){a}}", "{getT(id:1){a} getT(id:2.5){a}}", "query a{queryT{a}} query b{queryT(first:{}){a}}")
	// What has no type fits: arguments that no Out has, of fields that have none, of spreads.
	says(t, defs, no, "{nope(first:true,id:1.5)}", "{queryT(x:{first:true},last:A){a}}", "{queryT{a(first:true,id:1.5)}}", "{...on Nope{queryT(first:true){a}}}", "subscription{queryT(first:true){a}}", "{__typename(a:1.5)}", "{nope{queryT(first:true)}}")
}

// Of two arguments of one name both have a type; of two Args of one name the first counts.
func TestTwoArgs(t *testing.T) {
	defs := types(t, wide)
	says(t, defs, of(130), "{queryT(first:1,first:true){a}}", "{queryT(first:true,first:1){a}}", "{queryT(first:true,first:A){a}}")
	says(t, defs, no, "{queryT(first:1,first:2){a}}", "{queryT(first:1,x:true,x:1.5){a}}")
	for _, c := range []struct {
		args  []api.In
		rules []api.Errno
	}{
		{nil, no}, {ins("Int"), of(130)}, {ins("Boolean"), no}, {ins("Int", "Boolean"), of(130)}, {ins("Boolean", "Int"), no}, {ins("Nope", "Int"), no}, {ins("Int", "Nope"), of(130)},
	} {
		breaks(t, argument(api.Value{Kind: api.ValTrue}), roots(c.args...), c.rules...)
		others := append([]api.In{{Name: "x", Type: api.Ref{Name: "Int"}}}, c.args...)
		breaks(t, argument(api.Value{Kind: api.ValTrue}), roots(others...), c.rules...)
	}
	// The first Out of a name counts, and the first definition.
	defs = roots(ins("Boolean")...)
	defs[0].Outs = append(defs[0].Outs, roots(ins("Int")...)[0].Outs...)
	breaks(t, argument(api.Value{Kind: api.ValTrue}), defs)
	breaks(t, argument(api.Value{Kind: api.ValTrue}), append(roots(ins("Int")...), defs...), 130)
	breaks(t, argument(api.Value{Kind: api.ValTrue}), append(defs, roots(ins("Int")...)...))
}

// ins are such of the name `a` and of each type.
func ins(names ...string) []api.In {
	var l []api.In
	for _, x := range names {
		l = append(l, api.In{Name: "a", Type: api.Ref{Name: x}})
	}
	return l
}

// argument is a query of the field `q` with the one argument `a`.
func argument(v api.Value) api.Doc {
	return api.Doc{Ops: []api.Op{{Sels: []api.Sel{{Name: "q", Args: []api.Arg{{Name: "a", Value: v}}}}}}}
}

// roots are definitions: a Query with the one field `q`, of these Args, and the scalars.
func roots(args ...api.In) []api.Def {
	l := []api.Def{{Name: "Query", Kind: api.DefObject, Outs: []api.Out{{Name: "q", Args: args}}}}
	for _, name := range []string{"ID", "Int", "Float", "String", "Boolean"} {
		l = append(l, api.Def{Name: name})
	}
	return l
}

// Selections of any kind: only a field has an Out.
func TestKindsOfSelections(t *testing.T) {
	for kind := -2; kind <= api.SelKinds+2; kind++ {
		d := argument(api.Value{Kind: api.ValTrue})
		d.Ops[0].Sels[0].Kind = kind
		rules := no
		if kind == api.SelField {
			rules = of(130)
		}
		breaks(t, d, roots(ins("Int")...), rules...)
		// What holds of any value holds there, too.
		d = argument(object("x", "x"))
		d.Ops[0].Sels[0].Kind = kind
		breaks(t, d, nil, 132)
		d = argument(variable("x"))
		d.Ops[0].Sels[0].Kind = kind
		breaks(t, d, nil, 136)
		d.Ops[0].Vars = []api.Var{{Name: "x", Type: api.Ref{Name: "Boolean"}}}
		if kind == api.SelField {
			rules = of(138)
		}
		breaks(t, d, roots(ins("Int")...), rules...)
		d = api.Doc{Ops: []api.Op{{Kind: kind, Sels: []api.Sel{{Kind: kind, Sels: argument(object("x", "x")).Ops[0].Sels}}}}}
		breaks(t, d, nil, 132)
	}
}

func variable(name string) api.Value { return api.Value{Kind: api.ValVar, Text: name} }

// object is one of these names, each with null.
func object(names ...string) api.Value {
	return api.Value{Kind: api.ValObject, Names: names, List: make([]api.Value, len(names))}
}

// `if` of a known directive has a type, at each of the places where directives stand, and no other argument has.
func TestIf(t *testing.T) {
	defs := types(t, wide)
	places := func(directives string, rules ...api.Errno) {
		t.Helper()
		says(t, defs, rules, "{__typename"+directives+"}", "{queryT{a"+directives+"}}", "{nope"+directives+"}", "{...f"+directives+"}", "{..."+directives+"{a}}", "{nope{...on Nope"+directives+"{a}}}",
			"query"+directives+"{__typename}", "subscription x"+directives+"{a}", "query($a:Int"+directives+"){queryT(first:$a){a}}", "query($a:Int=1"+directives+",$b:Int){queryT(first:$a,offset:$b){a}}",
			"{__typename} fragment f on T"+directives+"{a}", "{__typename} fragment f on Nope{a ...g"+directives+"}")
	}
	for _, name := range []string{"skip", "include"} {
		places("@" + name)
		places("@" + name + "(if:true)")
		places("@" + name + "(if:false)")
		places("@"+name+"(if:true)@include(if:true)@skip(if:1)", 130)
		for _, v := range []string{"1", "null", "\"true\"", "A", "[true]", "{}", "[]", "1.5", "{if:true}"} {
			places("@"+name+"(if:"+v+")", 130)
		}
		places("@"+name+"(if:true,if:1)", 130)
		places("@"+name+"(if:1,if:true)", 130)
		places("@" + name + "(x:1,If:1)")
		places("@"+name+"(x:{a:1,a:1})", 132)
		places("@"+name+"(if:[{a:1,a:1}])", 130, 132)
	}
	for _, name := range []string{"x", "Skip", "deprecated"} {
		places("@" + name + "(if:1)")
		places("@" + name + "(if:null,x:{a:1.5})")
		places("@"+name+"(if:{a:[{b:1,c:2,b:3}]})", 132)
	}
}

// What `if` is asked for hangs on the definition of Boolean.
func TestIfDefs(t *testing.T) {
	d := func(v api.Value) api.Doc {
		return api.Doc{Frags: []api.Frag{{Directives: []api.Directive{{Name: "skip", Args: []api.Arg{{Name: "if", Value: v}}}}}}}
	}
	breaks(t, d(api.Value{Kind: api.ValInt}), nil)
	breaks(t, d(api.Value{}), nil, 130)
	breaks(t, d(api.Value{Kind: api.ValInt}), []api.Def{{Name: "Boolean", Kind: api.DefObject}})
	breaks(t, d(api.Value{Kind: api.ValInt}), []api.Def{{Name: "Boolean"}, {Name: "Boolean", Kind: api.DefObject}}, 130)
	breaks(t, d(api.Value{Kind: api.ValEnum, Text: "A"}), []api.Def{{Name: "Boolean", Kind: api.DefEnum, Words: []string{"A"}}})
	input := []api.Def{{Name: "Boolean", Kind: api.DefInput, Ins: []api.In{{Name: "x", Type: api.Ref{Name: "Int", Wraps: "!"}}}}}
	breaks(t, d(object("x")), input, 130)
	breaks(t, d(object("y")), input, 131, 133)
	breaks(t, d(object("y", "y")), input, 131, 132, 133)
}

// A default value has its variable's type.
func TestDefaults(t *testing.T) {
	defs := types(t, wide)
	says(t, defs, no, "query($a:Int=1){queryT(first:$a){a}}", "query($a:Int=null){queryT(first:$a){a}}", "query($a:Int!=1){queryT(first:$a){a}}", "query($a:TFilter={a:{eq:1}}){queryT(filter:$a){a}}", "mutation($a:[AddT!]={a:1,o:true}){addT(input:$a){a}}", "mutation($a:[AddT!]=[{a:1,o:true}]){addT(input:$a){a}}")
	says(t, defs, of(130), "query($a:Int=1.5){queryT(first:$a){a}}", "query($a:Int!=null){queryT(first:$a){a}}", "query($a:Int!=true){queryT(first:$a){a}}", "query($b:Int=1,$a:Int=[1]){queryT(first:$a,offset:$b){a}}", "query($a:TFilter={a:{eq:A}}){queryT(filter:$a){a}}", "query($a:E=C){queryT(filter:{e:{eq:$a}}){a}}", "query a{__typename} query($a:Int=A){queryT(first:$a){a}}")
	says(t, defs, of(131), "query($a:TFilter={x:1}){queryT(filter:$a){a}}", "mutation($a:[AddT!]=[{a:1,o:true,x:1}]){addT(input:$a){a}}")
	says(t, defs, of(132), "query($a:TFilter={a:{},a:{}}){queryT(filter:$a){a}}", "query($a:TFilter={and:{a:{eq:1,eq:1}}}){queryT(filter:$a){a}}")
	says(t, defs, of(133), "mutation($a:[AddT!]={a:1}){addT(input:$a){a}}", "mutation($a:[AddT!]={o:true}){addT(input:$a){a}}", "mutation($a:[AddT!]=[]$b:AddT={a:1}){addT(input:$a){a} x:addT(input:[$b]){a}}")
	// Of a type without a definition, or of one that is an object's, anything fits.
	says(t, defs, of(135, 138), "query($a:Nope={x:1.5}){queryT(first:$a){a}}", "query($a:T=[A,{x:1}]){queryT(first:$a){a}}")
	says(t, defs, of(132, 135, 138), "query($a:Nope={x:1,x:2}){queryT(first:$a){a}}", "query($a:T=[[{b:{x:1,x:2}}]]){queryT(first:$a){a}}")
	says(t, defs, of(130, 135, 138), "query($a:Nope!=null){queryT(first:$a){a}}")
	// Without Has there is none.
	d := read(t, "query($a:Int=1){queryT(first:$a){a}}")
	d.Ops[0].Vars[0].Default = object("x", "x")
	breaks(t, d, defs, 130, 132)
	d.Ops[0].Vars[0].Has = false
	breaks(t, d, defs)
	// A variable in one, as no text has it, is not used there.
	d.Ops[0].Vars[0].Has = true
	d.Ops[0].Vars[0].Default = variable("x")
	breaks(t, d, defs)
	d.Ops[0].Vars[0].Default = api.Value{Kind: api.ValList, List: []api.Value{variable("a")}}
	breaks(t, d, defs, 130)
	d.Ops[0].Vars = append(d.Ops[0].Vars, api.Var{Name: "x", Type: api.Ref{Name: "Int"}, Has: true, Default: variable("x")})
	breaks(t, d, defs, 130, 137)
}

// P13.1, ErrInputNone, ErrInputNeed

func TestInputs(t *testing.T) {
	defs := types(t, wide)
	says(t, defs, of(131), "{queryT(filter:{x:1}){a}}", "{queryT(filter:{a:{eq:1,x:null}}){a}}", "{queryT(filter:{and:[{},{x:1}]}){a}}", "{queryT(filter:{and:{or:{not:{x:1}}}}){a}}", "{queryT(order:{then:{then:{asc:a,ascc:a}}}){a}}", "{queryT(filter:{A:{}}){a}}", "{queryT(filter:{b:1}){a}}",
		"mutation{addT(input:[{a:1,o:true,id:1}]){a}}", "mutation{addT(input:{a:1,o:true,id:1}){a}}", "mutation{updateT(filter:{a:{eq:1}},set:{x:1}){a}}", "{queryT{a}} fragment f on T{b(filter:{x:1}){a}}")
	says(t, defs, of(133), "mutation{addT(input:[{}]){a}}", "mutation{addT(input:{}){a}}", "mutation{addT(input:{a:1}){a}}", "mutation{addT(input:{o:true}){a}}", "mutation{addT(input:[{a:1,o:true},{a:1}]){a}}", "mutation{addU(input:{c:1,us:[]}){e}}", "{queryT{a}} fragment f on Mutation{addT(input:{}){a}}")
	says(t, defs, of(131, 133), "mutation{addT(input:{A:1}){a}}", "mutation{addT(input:[{a:1,o:true,x:1},{a:1}]){a}}")
	says(t, defs, of(130, 131, 133), "mutation{addT(input:{x:1,a:null}){a}}")
	says(t, defs, no, "mutation{addT(input:{o:true,a:1}){a}}", "{queryT(filter:{}){a}}", "{queryT(order:{}){a}}", "mutation{addU(input:[{e:A}]){e}}")
	// What fits nothing, and what lies at no input, is not asked.
	says(t, defs, of(130), "{queryT(first:{x:1}){a}}", "{queryT(filter:{e:{eq:{x:1}}}){a}}", "{queryT(filter:[{x:1}]){a}}", "{queryT(filter:{not:[{x:1}]}){a}}", "{getT(id:{}){a}}", "{__typename@skip(if:{x:1})}")
	says(t, defs, of(131), "{queryT(filter:{x:{a:{x:1}}}){a}}")
	says(t, defs, no, "{nope(filter:{x:1})}", "{queryT(x:{x:1}){a}}", "{__typename@x(filter:{x:1})}")
	// null lies at inputs that may not be null, but is no object.
	says(t, defs, of(130), "mutation{addT(input:[null]){a}}")
	// A variable, too.
	says(t, defs, no, "mutation($a:AddT!){addT(input:[$a]){a}}")
	// The same where the object's values don't fit.
	says(t, defs, of(130, 131, 133), "mutation{addT(input:[{a:A,x:1}]){a}}")
}

// What lies at what, of any Wraps: the type that has no end counts.
func TestLies(t *testing.T) {
	input := api.Def{Name: "I", Kind: api.DefInput, Ins: []api.In{{Name: "x", Type: api.Ref{Name: "J", Wraps: "!"}}}}
	told := func(v api.Value, wraps string) []api.Errno {
		return checks(t, argument(v), append(roots(api.In{Name: "a", Type: api.Ref{Name: "I", Wraps: wraps}}), input))
	}
	list := func(l ...api.Value) api.Value { return api.Value{Kind: api.ValList, List: l} }
	x := object("y")
	for _, wraps := range []string{"", "!", "!!", "[", "![", "[!", "![!", "[[", "[![!", "!!!![[[[!!"} {
		if l := told(x, wraps); !slices.Equal(l, []api.Errno{131, 133}) {
			t.Errorf("%q: %v", wraps, l)
		}
	}
	// Another sign is no end, wherever it stands.
	for _, wraps := range []string{"?", "!?", "[ ", "?!", "x[", "]![!"} {
		if l := told(x, wraps); !slices.Equal(l, []api.Errno{131, 133}) {
			t.Errorf("%q: %v", wraps, l)
		}
	}
	for wraps, rules := range map[string][]api.Errno{"": {130}, "!": {130}, "[": {131, 133}, "![": {131, 133}, "[!": {131, 133}, "[[": {131, 133}, "?": {130}, "[?": {130}, "?[": {131, 133}} {
		if l := told(list(x), wraps); !slices.Equal(l, rules) {
			t.Errorf("%q: %v", wraps, l)
		}
		if l := told(list(list(), list(x)), wraps); wraps != "[[" && !slices.Equal(l, []api.Errno{130}) || wraps == "[[" && !slices.Equal(l, rules) {
			t.Errorf("%q: %v", wraps, l)
		}
	}
}

// Objects lie at inputs alone, whatever another definition has.
func TestLiesKinds(t *testing.T) {
	input := api.Def{Name: "I", Kind: api.DefInput, Ins: []api.In{{Name: "x", Type: api.Ref{Name: "Int", Wraps: "!"}}}}
	for kind := -2; kind <= api.DefKinds+2; kind++ {
		odd := api.Def{Name: "J", Kind: kind, Words: []string{"i"}, Ins: []api.In{{Name: "i", Type: api.Ref{Name: "I"}}, {Name: "n", Type: api.Ref{Name: "Int", Wraps: "!"}}}}
		defs := append(roots(api.In{Name: "a", Type: api.Ref{Name: "J"}}), input, odd)
		d := argument(around(object("y", "z"), "i", 1))
		used := argument(around(around(variable("v"), "x", 1), "i", 1))
		used.Ops[0].Vars = []api.Var{{Name: "v", Type: api.Ref{Name: "ID"}}}
		switch kind {
		case api.DefInput:
			breaks(t, d, defs, 131, 133)
			breaks(t, used, defs, 133, 138)
		case api.DefScalar, api.DefEnum:
			breaks(t, d, defs, 130)
			breaks(t, used, defs, 130)
		default:
			breaks(t, d, defs)
			breaks(t, used, defs)
		}
	}
}

// Which Ins count, where two have one name: their first one's type; but each that is needed is needed.
func TestInputDefs(t *testing.T) {
	must, may := api.Ref{Name: "Int", Wraps: "!"}, api.Ref{Name: "Int"}
	check := func(v api.Value, rules []api.Errno, l ...api.In) {
		t.Helper()
		input := api.Def{Name: "I", Kind: api.DefInput, Ins: l}
		defs := append(roots(api.In{Name: "a", Type: api.Ref{Name: "I"}}), input)
		breaks(t, argument(v), defs, rules...)
		breaks(t, argument(v), append(defs, api.Def{Name: "I"}), rules...)
		breaks(t, argument(v), append(defs, api.Def{Name: "I", Kind: api.DefInput}), rules...)
	}
	check(object(), no)
	check(object(""), of(131))
	check(object(""), no, api.In{Type: may})
	check(object(""), of(130), api.In{Type: must})
	check(object(), of(133), api.In{Type: must})
	check(object(), of(133), api.In{Name: "x", Type: may}, api.In{Name: "x", Type: must})
	check(object(), of(133), api.In{Name: "x", Type: must}, api.In{Name: "x", Type: may})
	check(object("x"), no, api.In{Name: "x", Type: may}, api.In{Name: "x", Type: must})
	check(object("x"), of(130), api.In{Name: "x", Type: must}, api.In{Name: "x", Type: may})
	check(object("y"), of(131, 133), api.In{Name: "x", Type: must})
	check(object("y", "x", "x"), of(130, 131, 132), api.In{Name: "x", Type: must})
	// Of two names the same both are looked at.
	two := object("x", "x")
	two.List[0] = api.Value{Kind: api.ValInt, Text: "1"}
	check(two, of(130, 132), api.In{Name: "x", Type: must})
	two.List[0], two.List[1] = two.List[1], two.List[0]
	check(two, of(130, 132), api.In{Name: "x", Type: must})
	two.List[0] = two.List[1]
	check(two, of(132), api.In{Name: "x", Type: must})
	for wraps, needed := range map[string]bool{"": false, "!": true, "[": false, "![": false, "[!": true, "!!": true, "!?": false, "?!": true} {
		rules := no
		if needed {
			rules = of(133)
		}
		check(object(), rules, api.In{Name: "x", Type: api.Ref{Name: "!", Wraps: wraps}})
	}
}

// An object with more names than values has them all; one with more values than names has values without a name.
func TestUnlikeLengths(t *testing.T) {
	must := api.In{Name: "x", Type: api.Ref{Name: "Int", Wraps: "!"}}
	input := api.Def{Name: "I", Kind: api.DefInput, Ins: []api.In{must}}
	defs := append(roots(api.In{Name: "a", Type: api.Ref{Name: "I"}}), input)
	check := func(names []string, l []api.Value, rules ...api.Errno) {
		t.Helper()
		breaks(t, argument(api.Value{Kind: api.ValObject, Names: names, List: l}), defs, rules...)
	}
	one, bad := api.Value{Kind: api.ValInt, Text: "1"}, api.Value{Kind: api.ValTrue}
	check([]string{"x"}, nil)
	check([]string{"x"}, []api.Value{one, bad})
	check(nil, []api.Value{bad}, 133)
	check([]string{"x", "y"}, []api.Value{one}, 131)
	check([]string{"x", "x"}, []api.Value{one}, 132)
	check([]string{"y", "x"}, []api.Value{one}, 131)
	check([]string{"x"}, []api.Value{one, object("b", "b")}, 132)
	check([]string{"x"}, []api.Value{one, variable("b")}, 136)
}

// P13.1, ErrInputTwice

func TestInputTwice(t *testing.T) {
	defs := types(t, wide)
	says(t, defs, no, "{nope(a:{b:1,c:{b:1},d:[{b:1},{b:1}]},b:{b:1})}", "{nope(a:{b:1,B:1})}", "{nope(a:{})}", "{nope(a:[b,b])}", "{queryT(filter:{a:{eq:1},not:{a:{eq:1}}}){a}}")
	says(t, defs, of(132), "{nope(a:{b:1,b:1})}", "{nope(a:{b:1,c:1,b:2})}", "{nope(a:[[{}],[{b:1,b:1}]])}", "{nope(a:{b:{c:{d:{},d:{}}}})}", "{a b(a:1,b:{b:{b:1,b:1}})}", "{queryT{a}} fragment f on Nope{a{b(c:{d:1,d:1})}}", "{a@x(y:{b:1,b:1})}", "{...{...f@x(y:{b:1,b:1})}}", "query@x(y:{b:1,b:1}){a}", "{a} fragment f on T@x(y:{b:1,b:1}){a}", "query($a:Int@x(y:{b:1,b:1})){queryT(first:$a){a}}",
		"{queryT(filter:{a:{eq:1},a:{eq:1}}){a}}", "{queryT(filter:{a:{eq:1,eq:2}}){a}}", "{queryT(filter:{and:[{},{id:1,id:2}]}){a}}")
	// Only an object has names that may not be the same.
	for kind := -1; kind <= api.ValKinds; kind++ {
		rules := no
		if kind == api.ValObject {
			rules = of(132)
		}
		v := api.Value{Kind: kind, Names: []string{"", ""}}
		if kind == api.ValVar {
			rules = of(136)
		}
		breaks(t, argument(v), nil, rules...)
		breaks(t, argument(api.Value{Kind: api.ValList, List: []api.Value{{}, v}}), nil, rules...)
	}
}

// P13.1, ErrVarTwice, ErrVarType

func TestVarTwice(t *testing.T) {
	defs := types(t, wide)
	says(t, defs, no, "query($a:Int,$b:Int){queryT(first:$a,offset:$b){a}}", "query($a:Int,$A:Int){queryT(first:$a,offset:$A){a}}", "query a($a:Int){queryT(first:$a){a}} query b($a:Int){queryT(first:$a){a}}")
	says(t, defs, of(134), "query($a:Int,$a:Int){queryT(first:$a){a}}", "query($a:Int,$b:Int,$a:Int){queryT(first:$a,offset:$b){a}}", "query($b:Int,$a:Int,$a:Int,$a:Int){queryT(first:$a,offset:$b){a}}", "query a($a:Int,$a:Int){queryT(first:$a){a}} query b($a:Int){queryT(first:$a){a}}", "query a{__typename} mutation b($a:TFilter!,$a:Int=1){deleteT(filter:$a)}")
	says(t, defs, of(134, 137), "query($a:Int,$a:Int){__typename}")
	// Of two of one name the first counts.
	says(t, defs, of(134), "query($a:Int,$a:String){queryT(first:$a){a}}", "query($a:ID=1,$a:ID){getT(id:$a){a}}")
	says(t, defs, of(134, 138), "query($a:String,$a:Int){queryT(first:$a){a}}", "query($a:ID,$a:ID=1){getT(id:$a){a}}", "query($a:ID,$a:ID!){getT(id:$a){a}}")
	// But each has a type that must be there, and a default value that must fit.
	says(t, defs, of(134, 135), "query($a:Int,$a:Nope){queryT(first:$a){a}}")
	says(t, defs, of(130, 134), "query($a:Int,$a:Int=A){queryT(first:$a){a}}")
	for _, name := range []string{"", "\xff", "a b"} {
		d := argument(variable(name))
		d.Ops[0].Vars = []api.Var{{Name: name, Type: api.Ref{Name: "Int"}}, {Name: name + "x", Type: api.Ref{Name: "Int"}}}
		breaks(t, d, roots(), 137)
		d.Ops[0].Vars[1].Name = name
		breaks(t, d, roots(), 134)
	}
}

func TestVarType(t *testing.T) {
	defs := types(t, wide)
	for _, name := range []string{"Int", "Float", "String", "Boolean", "ID", "E", "TFilter", "TOrder", "TOrderable", "AddT", "PatchU", "IntFilter", "EFilter"} {
		says(t, defs, no, "query($a:"+name+"){nope(a:$a)}", "query($a:["+name+"!]!){nope(a:$a)}")
	}
	for _, name := range []string{"T", "U", "Query", "Mutation", "Nope", "int", "Subscription", "TFilters", "a"} {
		says(t, defs, of(135), "query($a:"+name+"){nope(a:$a)}", "query($a:["+name+"!]!){nope(a:$a)}", "query($a:"+name+"=1){nope(a:$a)}", "query($b:Int,$a:"+name+"){nope(a:$a,b:$b)}", "query a{__typename} query b($a:"+name+"){nope(a:$a)}")
	}
	for kind := -2; kind <= api.DefKinds+2; kind++ {
		d := argument(variable("x"))
		d.Ops[0].Vars = []api.Var{{Name: "x", Type: api.Ref{Name: "V", Wraps: "["}}}
		rules := no
		if kind < 0 || kind == api.DefObject {
			rules = of(135)
		}
		breaks(t, d, []api.Def{{Name: "V", Kind: kind}}, rules...)
		breaks(t, d, []api.Def{{Name: "V", Kind: kind}, {Name: "V"}}, rules...)
		breaks(t, d, []api.Def{{Name: "V", Kind: kind}, {Name: "V", Kind: api.DefObject}}, rules...)
		breaks(t, d, []api.Def{{Kind: kind}}, 135)
		d.Ops[0].Vars[0].Type.Name = ""
		breaks(t, d, []api.Def{{Kind: kind}}, rules...)
	}
}

// P13.1, ErrVarNone, ErrVarUnused

// Documents whose first operation uses the variable x, and no other; its variables stand at the %.
func TestUses(t *testing.T) {
	defs := types(t, wide)
	for _, text := range []string{
		"query%{nope(a:$x)}", "query%{nope(a:[[$x]])}", "query%{nope(a:{b:[1,{c:$x}]})}", "query%{nope(a:1,b:$x)}", "query%{nope(a:$x,b:$x)nope(a:$x)}", "query%{queryT{nope{nope(a:$x)}}}", "query%{queryT(x:$x){a}}", "query%{queryT{a(x:$x)}}",
		"query%@x(a:$x){a}", "query%{a@x(a:$x)}", "query%{...f@x(a:$x)}", "query%{...@x(a:[$x]){a}}", "query%{a{...{b{...on T@x(a:{a:$x}){a}}}}}", "query%{a@x@y(b:1,a:$x)}", "subscription%{a(b:$x)}", "mutation%{a(b:$x)}",
		"query%{...f} fragment f on T@x(a:$x){a}", "query%{...f} fragment f on T{a(b:$x)}", "query%{a{...{...f}}} fragment f on T{a{...{a(b:[$x])}}}", "query%{...f} fragment f on T{...g} fragment g on T{a(b:$x)}", "query%{...f} fragment g on T{a(b:$x)} fragment f on T{a{...h}} fragment h on T{...{...g}}",
		"query%{...f} fragment f on T{...g a(b:$x)} fragment g on T{...f}", "query%{...f} fragment f on T{...g} fragment g on T{...f ...h} fragment h on T{...h a(b:$x)}", "query%{...f} fragment f on T{a(b:$x)} fragment f on T{b}", "query%{...f ...f} fragment f on T{...f a(b:$x)}",
		"query%{nope(x:{x:1,y:$x})}", "query%{queryT(filter:{x:{x:$x}}){a}}",
	} {
		d := func(vars ...string) api.Doc {
			d := read(t, strings.ReplaceAll(text, "%", ""))
			for _, x := range vars {
				d.Ops[0].Vars = append(d.Ops[0].Vars, api.Var{Name: x, Type: api.Ref{Name: "Int"}})
			}
			return d
		}
		hold := func(want []api.Errno, vars ...string) {
			t.Helper()
			l := slices.DeleteFunc(checks(t, d(vars...), defs), func(e api.Errno) bool { return e < api.ErrVarTwice })
			if !slices.Equal(l, want) {
				t.Errorf("%q, %q: %v, not %v", text, vars, l, want)
			}
		}
		hold(no, "x")
		hold(of(136))
		hold(of(137), "x", "y")
		hold(of(137), "y", "x")
		hold(of(136, 137), "y")
		hold(of(136, 137), "X")
		hold(of(134), "x", "x")
	}
	// What uses nothing.
	for _, text := range []string{
		"query%{nope(x:x)}", "query%{x:x}", "query%{a@x}", "query%{...x} fragment x on T{x}", "query%{nope(a:\"$x\")}", "query%{a} fragment f on T{a(b:$x)}", "query%{...f} fragment f on T{a} fragment g on T{...f a(b:$x)}", "query%{...f} fragment f on T{a} fragment f on T{a(b:$x)}", "query%{...f} fragment f on T{f} fragment f on T@x(a:$x){...g} fragment g on T{a(b:$x)}", "query%{...g} fragment f on T{a(b:$x)}",
		"query%{f} fragment f on T{a(b:$x)}", "query%{...on f{a}} fragment f on T{a(b:$x)}",
	} {
		says(t, defs, no, strings.ReplaceAll(text, "%", ""))
		says(t, defs, of(137), strings.ReplaceAll(text, "%", "($x:Int)"), strings.ReplaceAll(text, "%", "($x:Int=1)"))
	}
}

// Each operation has variables of its own, though they spread the same fragment.
func TestOperations(t *testing.T) {
	defs := types(t, wide)
	const f = " fragment f on Query{queryT(first:$x){a}}"
	says(t, defs, no, "query a($x:Int){...f} query b($x:Int){...f}"+f, "query a($x:Int!){...f} query b($x:Int=1){...f} query c{a}"+f, "query a{a} query b($x:Int){...f}"+f)
	says(t, defs, of(136), "query a($x:Int){...f} query b{...f}"+f, "query a{...f} query b($x:Int){...f}"+f, "query a($x:Int){...f} query b($x:Int){...f} query c{a{b{...{...f}}}}"+f)
	says(t, defs, of(137), "query a($x:Int){...f} query b($x:Int){a}"+f, "query a($x:Int){a} query b($x:Int){...f}"+f)
	says(t, defs, of(138), "query a($x:Int){...f} query b($x:String){...f}"+f, "query a($x:[Int]){...f} query b($x:Int){...f}"+f)
	says(t, defs, of(136, 137), "query a($x:Int){...f} query b($y:Int){...f}"+f, "query a($x:Int){a} query b{...f}"+f)
	says(t, defs, of(136, 137, 138), "query a($x:Int){a} query b{...f} query c($x:E){...f}"+f)
	says(t, defs, no, "query a($x:Int,$y:Int!){...f ...g} query b($x:Int){...f} mutation c($y:Int!){...g}"+f+" fragment g on Query{queryT(offset:$y){a}}")
}

// What stands in the directives of a variable's definition, as no text has it, is not used there.
func TestVarDirectives(t *testing.T) {
	d := argument(variable("x"))
	x := []api.Directive{{Name: "skip", Args: []api.Arg{{Name: "if", Value: variable("y")}}}}
	d.Ops[0].Vars = []api.Var{{Name: "x", Type: api.Ref{Name: "Int"}, Directives: x}}
	breaks(t, d, roots())
	d.Ops[0].Vars = append(d.Ops[0].Vars, api.Var{Name: "y", Type: api.Ref{Name: "Int"}})
	breaks(t, d, roots(), 137)
	d.Ops[0].Directives = x
	breaks(t, d, roots(), 138)
}

// Variables in values of any kind, as no text has them.
func TestUsesAnywhere(t *testing.T) {
	for kind := -1; kind <= api.ValKinds; kind++ {
		v := api.Value{Kind: kind, Text: "x", List: []api.Value{variable("x")}}
		breaks(t, argument(v), nil, 136)
		d := argument(v)
		d.Ops[0].Vars = []api.Var{{Name: "x", Type: api.Ref{Name: "Int"}}}
		breaks(t, d, roots())
	}
}

// P13.1, ErrVarWhere

func TestVarWhere(t *testing.T) {
	defs := types(t, wide)
	hold := func(rules []api.Errno, at string, vars ...string) {
		t.Helper()
		for _, x := range vars {
			says(t, defs, rules, "query($x:"+x+")"+at)
		}
	}
	const first, id, in, filters = "{queryT(first:$x){a}}", "{getT(id:$x){a}}", "{queryT(filter:{a:{in:$x}}){a}}", "{queryT(filter:{and:$x}){a}}"
	hold(no, first, "Int", "Int!", "Int=1", "Int=null", "Int!=1")
	hold(of(138), first, "Float", "ID", "String", "[Int]", "[Int!]!", "E", "TFilter")
	hold(no, id, "ID!", "ID=1", "ID=\"\"", "ID!=1")
	hold(of(138), id, "ID", "ID=null", "String!", "Int!", "Int=1", "[ID!]!", "[ID]=[1]", "[ID!]=[]")
	hold(no, in, "[Int!]", "[Int!]!", "[Int!]=1", "[Int!]=null")
	hold(of(138), in, "[Int]", "[Int]!", "[Int]=[1]", "Int", "Int!", "Int=1", "[[Int!]]", "[Float!]")
	hold(no, "{queryT(filter:{a:{in:[$x]}}){a}}", "Int!", "Int=1")
	hold(of(138), "{queryT(filter:{a:{in:[$x]}}){a}}", "Int", "Int=null", "[Int!]!", "Float!")
	hold(no, "{queryT(filter:{a:{in:[1,$x,2]}}){a}}", "Int!", "Int=1")
	hold(no, filters, "[TFilter!]", "[TFilter!]!")
	hold(of(138), filters, "[TFilter]", "TFilter", "TFilter!", "[UFilter!]")
	hold(no, "{queryT(filter:{and:{or:{not:$x}}}){a}}", "TFilter", "TFilter!")
	hold(of(138), "{queryT(filter:{and:{or:{not:$x}}}){a}}", "[TFilter!]", "UFilter", "TOrder")
	hold(no, "{queryT(filter:{e:{eq:$x}}){a}}", "E", "E!")
	hold(of(138), "{queryT(filter:{e:{eq:$x}}){a}}", "String", "TOrderable", "Int")
	for _, at := range []string{"{a@skip(if:$x)}", "@include(if:$x){a}", "{...f@skip(if:$x)}", "{...f} fragment f on T@skip(if:$x){a}", "{...f} fragment f on T{...@skip(if:$x){a}}"} {
		hold(no, at, "Boolean!", "Boolean=true", "Boolean!=false")
		hold(of(138), at, "Boolean", "Boolean=null", "Int!", "[Boolean!]!")
	}
	// Where it lies at no type.
	for _, at := range []string{"{nope(a:$x)}", "{queryT(x:$x){a}}", "{a@x(if:$x)}", "{a@skip(x:$x)}", "{...on Nope{queryT(first:$x){a}}}"} {
		hold(no, at, "Int", "Boolean", "[TFilter!]!", "E=A")
	}
	hold(of(131), "{queryT(filter:{x:$x}){a}}", "Int", "TFilter", "Boolean!")
	hold(of(130), "{queryT(first:[$x]){a}}", "Boolean", "Int")
	hold(of(130), "{queryT(first:{first:$x}){a}}", "Boolean", "Int")
	hold(of(130), "{queryT(filter:{a:{eq:[$x]}}){a}}", "Boolean", "Int")
	hold(of(130), "{queryT(filter:{not:[{a:{eq:$x}}]}){a}}", "Boolean", "Int")
}

// One that is used more than once must stand at all of its places.
func TestVarWhereTwice(t *testing.T) {
	defs := types(t, wide)
	says(t, defs, no, "query($x:Int){queryT(first:$x,offset:$x){b(first:$x){a}}}", "query($x:Int!){queryT(first:$x,filter:{a:{in:[$x],eq:$x}}){a}}", "query($x:Int=1){queryT(first:$x,filter:{a:{in:[$x],eq:$x}}){a}}")
	says(t, defs, of(138), "query($x:Int){queryT(first:$x){a} getT(id:$x){a}}", "query($x:ID!){getT(id:$x){a} queryT(first:$x){a}}", "query($x:Int){queryT(first:$x,filter:{a:{in:[$x],eq:$x}}){a}}", "query($x:Int){queryT(first:$x){a@skip(if:$x)}}", "query($x:Int){queryT(first:$x){...f}} fragment f on T{b(filter:$x){a}}", "query($x:TFilter){queryT(first:$x){...f}} fragment f on T{b(filter:$x){a}}",
		"query($x:Int,$y:Int){queryT(first:$x){b(first:$y){a}} getT(id:$y){a}}")
	// In what no operation spreads it stands nowhere.
	says(t, defs, no, "query($x:Int){queryT(first:$x){a}} fragment f on T{b(filter:$x){a}}", "{a} fragment f on T{b(filter:$x,first:$x){a}}")
	// A fragment that is there twice is the first one.
	says(t, defs, no, "query($x:Int){queryT{...f}} fragment f on T{b(first:$x){a}} fragment f on T{b(filter:$x){a}}")
	says(t, defs, of(138), "query($x:Int){queryT{...f}} fragment f on T{b(filter:$x){a}} fragment f on T{b(first:$x){a}}")
	// Round a cycle, and by way of other fragments.
	says(t, defs, of(138), "query($x:Int){queryT{...f}} fragment f on T{...g} fragment g on T{...f b(filter:$x){a}}", "query($x:Int){queryT{...f}} fragment f on T{...g b{...h}} fragment g on T{...f} fragment h on T{...h b(filter:$x){a}}")
	says(t, defs, no, "query($x:Int){queryT{...f}} fragment f on T{...g} fragment g on T{...f b(first:$x){a}}")
}

// P13.1: several rules at once are told by rising numbers, each once.
func TestAll(t *testing.T) {
	defs := types(t, wide)
	says(t, defs, of(130, 131, 132, 133, 134, 135, 136, 137, 138),
		"mutation($a:Int,$a:Nope,$b:T,$b:Int){addT(input:[{x:1,x:1},{a:$a,o:$a,e:C}]){b(first:$y){a}}}",
		"query($x:Int!=null,$x:U=[],$y:String){queryT(first:$x,offset:$z){...f}getT(id:$x){a}} fragment f on T@skip(if:1){a@include(x:{a:1,a:1})} fragment g on Mutation{addT(input:[{x:1}]){a}}")
	says(t, defs, of(130, 132, 134, 136, 138), "query($a:Int,$a:Int=A){queryT(filter:$a,first:$b,x:{a:1,a:1}){a}}")
	says(t, defs, of(131, 133, 135, 137), "mutation($a:Nope){addT(input:{x:1}){a}}")
	// Without definitions nothing has a type, but for Boolean's sign.
	breaks(t, read(t, "mutation($a:Int,$a:Nope){addT(input:[{x:1,x:1},{a:$a,o:$y,e:C}]){b(first:$y){a@skip(if:null)}}}"), nil, 130, 132, 134, 135, 136)
}
