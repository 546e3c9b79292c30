package coerce_test

import (
	"testing"

	"rhizome/api"
	"rhizome/gen"
)

// P16.3: arguments of the fields of a schema's API.
func TestArgsTexts(t *testing.T) {
	defs := types(t, wide)
	known := json(t, "{\"a\":1,\"n\":null,\"z\":\"B\",\"o\":{\"a\":1},\"l\":[true]}")
	for _, c := range []struct{ root, field, args, want string }{
		{"Query", "getT", "id:1", "{\"id\":\"1\"}"}, {"Query", "getT", "id:\"a\"", "{\"id\":\"a\"}"}, {"Query", "getT", "id:$a", "{\"id\":1}"}, {"Query", "getT", "id:$l", "{\"id\":[true]}"}, {"Query", "getT", "id:null", ""}, {"Query", "getT", "id:$n", ""}, {"Query", "getT", "id:$x", ""}, {"Query", "getT", "x:1", ""}, {"Query", "getT", "id:1.5", ""}, {"Query", "getT", "x:1.5,id:1", "{\"id\":\"1\"}"},
		{"Query", "queryT", "first:1", "{\"first\":1}"}, {"Query", "queryT", "offset:2,first:1,order:{desc:a},filter:{}", "{\"filter\":{},\"order\":{\"desc\":\"a\"},\"first\":1,\"offset\":2}"}, {"Query", "queryT", "first:$x,offset:$x,filter:$x", "{}"}, {"Query", "queryT", "first:null,offset:$n", "{\"first\":null,\"offset\":null}"}, {"Query", "queryT", "first:true", ""}, {"Query", "queryT", "first:$l", "{\"first\":[true]}"},
		{"Query", "queryT", "first:$a,offset:$b,filter:{a:{in:$c},e:{in:[A,$z]}}", "{\"filter\":{\"a\":{},\"e\":{\"in\":[\"A\",\"B\"]}},\"first\":1}"}, {"Query", "queryT", "first:$a,filter:{e:{in:[A,$y]}}", ""},
		{"Query", "queryT", "first:1,first:2", "{\"first\":1}"}, {"Query", "queryT", "first:1,first:true", "{\"first\":1}"}, {"Query", "queryT", "first:true,first:1", ""}, {"Query", "queryT", "first:$x,first:1", "{}"}, {"Query", "queryT", "offset:1,first:1,offset:$x", "{\"first\":1,\"offset\":1}"}, {"Query", "queryT", "x:$x,y:{a:[1]},First:1,z:\"a\"", "{}"},
		{"Query", "getT", "id:1,id:null", "{\"id\":\"1\"}"}, {"Query", "getT", "id:null,id:1", ""}, {"Query", "getT", "id:$x,id:1", ""},
		{"Mutation", "addT", "input:{o:true,a:1}", "{\"input\":[{\"a\":1,\"o\":true}]}"}, {"Mutation", "addT", "input:[]", "{\"input\":[]}"}, {"Mutation", "addT", "input:[{a:1}]", ""}, {"Mutation", "addT", "input:$o", "{\"input\":{\"a\":1}}"}, {"Mutation", "addT", "input:[$o,{a:2,o:$a}]", "{\"input\":[{\"a\":1},{\"a\":2,\"o\":1}]}"}, {"Mutation", "addT", "input:[$n]", ""}, {"Mutation", "addT", "input:$n", ""},
		{"Mutation", "updateT", "set:{a:null},filter:{id:7}", "{\"filter\":{\"id\":[\"7\"]},\"set\":{\"a\":null}}"}, {"Mutation", "updateT", "set:{}", ""}, {"Mutation", "updateT", "filter:{}", ""}, {"Mutation", "updateT", "filter:{},set:$x", ""}, {"Mutation", "updateT", "filter:$x,set:{}", ""}, {"Mutation", "updateT", "filter:{},set:{x:1}", ""},
		{"T", "a", "first:1", "{}"}, {"T", "b", "first:1,x:1", "{\"first\":1}"},
	} {
		o, is := gen.Out(defs, c.root, c.field)
		if !is {
			t.Fatal(c.field)
		}
		j, e := argued(t, args(t, c.args), o.Args, defs, known)
		becomes(t, c.args, j, e, c.want, api.ErrCoerceValue)
	}
}

// Arguments of one name, Ins that none has, Ins of one name, arguments that say nothing; others are not looked at.
func TestArgsIns(t *testing.T) {
	defs := types(t, wide)
	check := func(l []api.Arg, want string, ins ...api.In) {
		t.Helper()
		j, e := argued(t, l, ins, defs, json(t, "{\"n\":null,\"v\":[{}]}"))
		becomes(t, short(l), j, e, want, api.ErrCoerceValue)
	}
	a, b, must, list := in(t, "a", "Int"), in(t, "b", "Boolean"), in(t, "b", "Boolean!"), in(t, "l", "[Int!]")
	check(nil, "{}")
	check(nil, "{}", a, b, list)
	check(nil, "", a, must)
	check(args(t, "a:1,b:true"), "{}")
	check(args(t, "a:1,b:true"), "{\"a\":1,\"b\":true}", a, b)
	check(args(t, "a:1,b:true"), "{\"b\":true,\"a\":1}", must, a)
	check(args(t, "l:$v,b:$v,a:$v"), "{\"b\":[{}],\"a\":[{}],\"l\":[{}]}", b, a, list)
	check(args(t, "l:[$v,1]"), "{\"l\":[[{}],1]}", b, a, list)
	check(args(t, "l:[$n,1]"), "", b, a, list)
	check(args(t, "l:[$x,1]"), "", b, a, list)
	check(args(t, "l:$x"), "{}", b, a, list)
	check(args(t, "l:$n"), "{\"l\":null}", b, a, list)
	check(args(t, "b:$n"), "", must)
	check(args(t, "b:$x"), "", must)
	check(args(t, "c:$n,d:1,b:true"), "{\"b\":true}", must)
	check(args(t, "a:true"), "", a, b)
	check(args(t, "a:true"), "{}", b)
	check(args(t, "a:1"), "", must, a)
	// Two Ins of one name: the first counts.
	check(args(t, "a:1"), "{\"a\":1}", a, in(t, "a", "Boolean!"))
	check(args(t, "a:true"), "", a, in(t, "a", "Boolean!"))
	check(args(t, "a:$x"), "{}", a, in(t, "a", "Boolean!"))
	check(nil, "{}", a, in(t, "a", "Boolean!"))
	check(nil, "", in(t, "a", "Boolean!"), a)
	check(args(t, "b:true,a:1"), "{\"a\":1,\"b\":true}", a, b, a, must, a)
	// Names that no text has.
	check([]api.Arg{{Value: value(t, "1")}}, "{\"\":1}", api.In{Type: a.Type})
	check([]api.Arg{{Value: value(t, "1")}}, "{}", a)
	// Types that no definition has, and none but an input's or a scalar's.
	check(args(t, "x:null"), "{\"x\":null}", in(t, "x", "Nope"))
	check(args(t, "x:$v"), "{\"x\":[{}]}", in(t, "x", "Nope!"))
	check(args(t, "x:1"), "", in(t, "x", "Nope"))
	check(args(t, "x:{}"), "", in(t, "x", "T"))
	check(args(t, "x:[]"), "{\"x\":[]}", in(t, "x", "[T!]!"))
}

// P16.4: variables of a text.
func TestVarsTexts(t *testing.T) {
	defs := types(t, wide)
	for _, c := range []struct {
		vars, given, want string
		e                 api.Errno
	}{
		{"$a:Int", "null", "{}", 0}, {"$a:Int", "{}", "{}", 0}, {"$a:Int", "{\"a\":1}", "{\"a\":1}", 0}, {"$a:Int", "{\"a\":null}", "{\"a\":null}", 0}, {"$a:Int", "{\"a\":true}", "", 160}, {"$a:Int", "{\"A\":true,\"b\":[{}]}", "{}", 0},
		{"$a:Int!", "null", "", 160}, {"$a:Int!", "{}", "", 160}, {"$a:Int!", "{\"a\":null}", "", 160}, {"$a:Int!", "{\"a\":1}", "{\"a\":1}", 0}, {"$a:Int!", "{\"b\":1}", "", 160},
		{"$a:Int=1", "null", "{\"a\":1}", 0}, {"$a:Int=1", "{\"a\":2}", "{\"a\":2}", 0}, {"$a:Int=1", "{\"a\":null}", "{\"a\":null}", 0}, {"$a:Int=null", "{}", "{\"a\":null}", 0}, {"$a:Int=1", "{\"a\":\"\"}", "", 160}, {"$a:Int=1", "{\"b\":2}", "{\"a\":1}", 0},
		{"$a:Int!=1", "{}", "{\"a\":1}", 0}, {"$a:Int!=1", "{\"a\":null}", "", 160}, {"$a:Int!=null", "{}", "", 161}, {"$a:Int!=null", "{\"a\":1}", "{\"a\":1}", 0}, {"$a:Int!=null", "{\"a\":null}", "", 160},
		{"$a:Int=true", "{}", "", 161}, {"$a:Int=true", "{\"a\":1}", "{\"a\":1}", 0}, {"$a:Int=2147483648", "null", "", 161}, {"$a:Float=1", "{}", "{\"a\":1e0}", 0}, {"$a:ID=1", "{}", "{\"a\":\"1\"}", 0}, {"$a:E=A", "{}", "{\"a\":\"A\"}", 0}, {"$a:E=C", "{}", "", 161}, {"$a:E=A", "{\"a\":\"B\"}", "{\"a\":\"B\"}", 0},
		{"$a:[Int!]=2", "{}", "{\"a\":[2]}", 0}, {"$a:[Int!]=[1,null]", "{}", "", 161}, {"$a:[Int!]", "{\"a\":1}", "{\"a\":[1]}", 0}, {"$a:[Int!]!", "{\"a\":[null]}", "", 160}, {"$a:[[ID]]=[1,[2]]", "{}", "{\"a\":[[\"1\"],[\"2\"]]}", 0},
		{"$a:TFilter={a:{eq:1}}", "{}", "{\"a\":{\"a\":{\"eq\":1}}}", 0}, {"$a:TFilter={x:1}", "{}", "", 161}, {"$a:[AddT!]!", "{\"a\":{\"o\":true,\"a\":1}}", "{\"a\":[{\"a\":1,\"o\":true}]}", 0}, {"$a:[AddT!]!", "{\"a\":{\"a\":1}}", "", 160}, {"$a:AddT={a:1}", "null", "", 161},
		{"$a:T", "{}", "{}", 0}, {"$a:T", "{\"a\":null}", "{\"a\":null}", 0}, {"$a:T", "{\"a\":{}}", "", 160}, {"$a:T={}", "{}", "", 161}, {"$a:Nope=1", "{}", "", 161}, {"$a:Nope=1", "{\"a\":1}", "", 160}, {"$a:Nope!", "{}", "", 160}, {"$a:[Nope]=[]", "{}", "{\"a\":[]}", 0},
		// The variables' order is that of the answer, and of the errors.
		{"$b:Int,$a:Int", "{\"a\":1,\"c\":2,\"b\":3}", "{\"b\":3,\"a\":1}", 0}, {"$c:Int=7,$b:Int!,$a:Int", "{\"b\":3}", "{\"c\":7,\"b\":3}", 0},
		{"$a:Int!,$b:Int=true", "{}", "", 160}, {"$b:Int=true,$a:Int!", "{}", "", 161}, {"$a:Int,$b:Int=true", "{\"a\":true}", "", 160}, {"$b:Int=true,$a:Int", "{\"a\":true}", "", 161}, {"$c:Int=1,$a:Int!,$b:Int=true", "{}", "", 160}, {"$c:Int=1,$b:Int=true,$a:Int!", "{}", "", 161}, {"$a:Int,$b:Int!=null", "{\"a\":1}", "", 161}, {"$a:Int!,$b:Int!=null", "{\"a\":null}", "", 160}, {"$a:Int!=null,$b:Int!", "{}", "", 161},
		// Of two of one name the first counts.
		{"$a:Int,$a:Boolean!", "{}", "{}", 0}, {"$a:Int,$a:Boolean!", "{\"a\":1}", "{\"a\":1}", 0}, {"$a:Int,$a:Boolean", "{\"a\":true}", "", 160}, {"$a:Int,$a:Int=1", "{}", "{}", 0}, {"$a:Int=1,$a:Int=2", "{}", "{\"a\":1}", 0}, {"$a:Int=1,$a:Int=true", "{}", "{\"a\":1}", 0}, {"$a:Int=true,$a:Int=1", "{}", "", 161}, {"$a:Int!,$a:Int=1", "{}", "", 160}, {"$a:Int=1,$b:Int=2,$a:Int!=true,$c:Int=3", "{}", "{\"a\":1,\"b\":2,\"c\":3}", 0},
	} {
		j, e := given(t, vars(t, c.vars), json(t, c.given), defs)
		becomes(t, c.vars+" with "+c.given, j, e, c.want, c.e)
	}
}

// What is given that no JSON text comes to; without variables all of these are looked at, too.
func TestVarsGiven(t *testing.T) {
	defs := types(t, wide)
	for kind := -2; kind <= api.JsonKinds+2; kind++ {
		for _, l := range [][]api.Var{nil, vars(t, "$x:Int"), vars(t, "$x:Int=1"), vars(t, "$x:Int!=1"), vars(t, "$y:Int=1"), vars(t, "$x:Boolean=true"), vars(t, "$x:Boolean=1")} {
			want := ""
			if kind == api.JsonNull || kind == api.JsonObject {
				want = "{}"
			}
			e := api.ErrCoerceVar
			if len(l) > 0 && want != "" {
				want = "{\"" + l[0].Name + "\":7}" // full has a member x
				if is := kind == api.JsonObject && l[0].Name == "x"; !is && l[0].Type.Name == "Boolean" {
					want = map[int]string{api.ValTrue: "{\"x\":true}"}[l[0].Default.Kind]
					e = api.ErrCoerceValue
				} else if !is && l[0].Has {
					want = "{\"" + l[0].Name + "\":1}"
				} else if !is {
					want = "{}"
				} else if l[0].Type.Name == "Boolean" {
					want = ""
				}
			}
			j, got := given(t, l, full(kind), defs)
			becomes(t, short(l)+short(full(kind)), j, got, want, e)
		}
	}
	one, yes := json(t, "1"), json(t, "true")
	for _, c := range []struct {
		given api.Json
		want  string
	}{
		{api.Json{Kind: api.JsonObject, Keys: []string{"a"}}, "{\"a\":7}"}, {api.Json{Kind: api.JsonObject, Keys: []string{"b", "a"}, List: []api.Json{yes}}, "{\"a\":7}"}, {api.Json{Kind: api.JsonObject, List: []api.Json{yes}}, "{\"a\":7}"},
		{api.Json{Kind: api.JsonObject, Keys: []string{"a", "a"}, List: []api.Json{one, yes}}, "{\"a\":1}"}, {api.Json{Kind: api.JsonObject, Keys: []string{"a", "a"}, List: []api.Json{yes, one}}, ""}, {api.Json{Keys: []string{"a"}, List: []api.Json{yes}}, "{\"a\":7}"},
	} {
		j, e := given(t, vars(t, "$a:Int=7"), c.given, defs)
		becomes(t, short(c.given), j, e, c.want, api.ErrCoerceVar)
	}
}

// Trees that no text comes to: a default value that is not had, one with variables in it, a variable without a name.
func TestVarsOdd(t *testing.T) {
	defs := types(t, wide)
	one, x, a := value(t, "1"), value(t, "$x"), value(t, "$a")
	list := api.Value{Kind: api.ValList, List: []api.Value{x, one}}
	object := func(name string, v api.Value) api.Value {
		return api.Value{Kind: api.ValObject, Names: []string{name}, List: []api.Value{v}}
	}
	for _, c := range []struct {
		at   string
		has  bool
		v    api.Value
		want string
		e    api.Errno
	}{
		{"Int", false, one, "{}", 0}, {"Int!", false, one, "", 160}, {"Int", true, one, "{\"a\":1}", 0},
		// A variable says nothing there, whatever is given.
		{"Int", true, x, "{}", 0}, {"Int!", true, x, "", 160}, {"Int", true, a, "{}", 0}, {"[Int]", true, list, "{\"a\":[null,1]}", 0}, {"[Int!]", true, list, "", 161}, {"Int", true, list, "", 161},
		{"TFilter", true, object("not", x), "{\"a\":{}}", 0}, {"TFilter", true, object("x", x), "", 161}, {"AddT", true, object("a", x), "", 161}, {"TFilter", true, api.Value{Kind: api.ValObject, Names: []string{"a"}}, "{\"a\":{}}", 0}, {"Int", true, api.Value{Kind: api.ValKinds}, "", 161},
	} {
		l := []api.Var{{Name: "a", Type: ref(t, c.at), Has: c.has, Default: c.v, Directives: []api.Directive{{Name: "x", Args: []api.Arg{{Value: x}}}}}}
		j, e := given(t, l, json(t, "{\"x\":1}"), defs)
		becomes(t, short(l), j, e, c.want, c.e)
	}
	j, e := given(t, []api.Var{{Type: ref(t, "Int!")}, {Name: "b", Type: ref(t, "Int"), Has: true, Default: one}}, api.Json{Kind: api.JsonObject, Keys: []string{""}, List: []api.Json{json(t, "2")}}, defs)
	becomes(t, "no name", j, e, "{\"\":2,\"b\":1}", api.ErrCoerceVar)
}
