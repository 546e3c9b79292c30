package coerce_test

import (
	"fmt"
	"strings"
	"testing"

	"rhizome/api"
	"rhizome/coerce"
)

// says is what a value by a type is wanted to become; an empty one: it may not be.
func says(t *testing.T, v api.Value, at api.Ref, defs []api.Def, known api.Json, want string) {
	t.Helper()
	j, says, e := told(t, v, at, defs, known)
	if !says && e == api.OK {
		t.Errorf("%s by %v says nothing", short(v), at)
	}
	becomes(t, fmt.Sprintf("%s by %v with %s", short(v), at, short(known)), j, e, want, api.ErrCoerceValue)
}

// nothing: a value says nothing.
func nothing(t *testing.T, v api.Value, at api.Ref, defs []api.Def, known api.Json) {
	t.Helper()
	if j, says, e := told(t, v, at, defs, known); says || e != api.OK || !same(j, api.Json{}) {
		t.Errorf("%s by %v with %s: %s, %v, %d", short(v), at, short(known), short(j), says, e)
	}
}

func checkValues(t *testing.T, defs []api.Def, known api.Json, at, fit, not string) {
	t.Helper()
	for _, text := range strings.Fields(fit) {
		from, want, _ := strings.Cut(text, ">")
		says(t, value(t, from), ref(t, at), defs, known, want)
	}
	for _, text := range strings.Fields(not) {
		says(t, value(t, text), ref(t, at), defs, known, "")
	}
}

// P16.2: scalars, enums and inputs of a schema; of each word what stands ahead of `>` becomes what stands behind it.
func TestValueTexts(t *testing.T) {
	defs := types(t, wide)
	for _, c := range []struct{ at, becomes, not string }{
		{"Int", "null>null 0>0 -0>0 1>1 -1>-1 2147483647>2147483647 -2147483648>-2147483648", "1.0 0.0 -1.5 1e0 1E2 \"1\" true false A [] [1] {} {a:1} 2147483648 -2147483649 4294967296 9223372036854775808 -99999999999999999999999999"},
		{"Float", "null>null 0>0e0 -0>-0e0 0.0>0e0 -0.0>-0e0 1>1e0 1.5>1.5e0 -1e5>-1e5 1E-3>1e-3 2.5e+300>2.5000000000000001e300 1e-999>0e0 2147483648>2.147483648e9 9007199254740993>9.007199254740992e15 99999999999999999999999999>1e26 1e308>1e308", "1e999 -1e309 \"1\" true A [] [1.5] {}"},
		{"String", "null>null \"\">\"\" \"a\">\"a\" \"1\">\"1\" \"\\u00e9\">\"é\" \"\"\"a\"\"\">\"a\"", "1 1.5 true A [] [\"a\"] {}"},
		{"Boolean", "null>null true>true false>false", "1 0 \"true\" True A [] [true] {}"},
		{"ID", "null>null 1>\"1\" -1>\"-1\" 0>\"0\" -0>\"-0\" \"\">\"\" \"a\">\"a\" \"01\">\"01\" 99999999999999999999999999>\"99999999999999999999999999\"", "1.5 1e5 true A [] [1] {}"},
		{"E", "null>null A>\"A\" B>\"B\"", "C a AA \"A\" 1 true [] [A] {} {A:A}"},
		{"TOrderable", "null>null id>\"id\" a>\"a\"", "b u asc \"a\" 1"},
		{"TOrder", "{}>{} {asc:a}>{\"asc\":\"a\"} {then:{asc:e},desc:id,asc:null}>{\"asc\":null,\"desc\":\"id\",\"then\":{\"asc\":\"e\"}} null>null", "{asc:b} {then:{asc:x}} {then:[]} {asc:\"a\"} {x:1} {x:null} {asc:a,x:1} 1 a \"a\" [] [{}] true"},
		{"TFilter", "{}>{} {a:{eq:1}}>{\"a\":{\"eq\":1}} {and:[]}>{\"and\":[]} {and:{}}>{\"and\":[{}]} {and:[{},{or:{not:{}}}]}>{\"and\":[{},{\"or\":[{\"not\":{}}]}]} {id:1}>{\"id\":[\"1\"]} {id:[1,\"a\"]}>{\"id\":[\"1\",\"a\"]} {e:{in:A}}>{\"e\":{\"in\":[\"A\"]}} {f:{lt:1},a:{in:[]}}>{\"a\":{\"in\":[]},\"f\":{\"lt\":1e0}} {and:null}>{\"and\":null}", "{x:1} {a:{x:A}} {a:1} {a:{eq:1.5}} {and:[null]} {and:[1]} {and:[[]]} {not:[]} {not:[{}]} {id:[null]} {id:A} {e:{in:[A,C]}} {and:[{},{or:{not:{a:1}}}]} 1 []"},
		{"AddT", "null>null {a:1,o:true}>{\"a\":1,\"o\":true} {o:false,e:null,b:7,a:0}>{\"a\":0,\"b\":[\"7\"],\"e\":null,\"o\":false}", "{} {a:1} {o:true} {a:null,o:true} {a:1,o:null} {a:1,o:true,x:1} {a:1,o:true,b:[null]} {a:1,o:1}"},
		{"T", "null>null", "{} {a:1} 1 A [] [{}]"},
		{"Nope", "null>null", "{} 1 1.5 \"a\" true A []"},
		{"Int!", "0>0 1>1", "null 1.5 [] [1]"},
		{"AddT!", "{a:1,o:true}>{\"a\":1,\"o\":true}", "null {}"},
		{"Nope!", "", "null 1"},
		{"[Int]", "null>null 1>[1] []>[] [1]>[1] [1,null]>[1,null] [null]>[null]", "1.5 [1.5] [1,[1]] [[]] A {} [1,2,true]"},
		{"[Int!]", "null>null 1>[1] []>[] [1]>[1] [1,2]>[1,2]", "[null] [1,null] [[1]] true"},
		{"[Int]!", "1>[1] []>[] [null]>[null]", "null true [true]"},
		{"[Int!]!", "1>[1] []>[] [1]>[1]", "null [null] [1,null] true"},
		{"[[Int]]", "null>null 1>[[1]] []>[] [1]>[[1]] [[1]]>[[1]] [1,[2,null],null]>[[1],[2,null],null] [[]]>[[]]", "[[[]]] [[[1]]] [true] [[true]] A"},
		{"[[Int!]!]", "null>null 1>[[1]] []>[] [1]>[[1]] [1,[2]]>[[1],[2]] [[]]>[[]]", "[null] [[null]] [[[1]]]"},
		{"[E!]", "A>[\"A\"] [A,B,A]>[\"A\",\"B\",\"A\"] []>[]", "C [A,C] [null]"},
		{"[AddT!]!", "{o:true,a:1}>[{\"a\":1,\"o\":true}] [{a:1,o:true},{a:2,o:false}]>[{\"a\":1,\"o\":true},{\"a\":2,\"o\":false}] []>[]", "null {} [{}] [null] [[{a:1,o:true}]] [{a:A,o:true}] 1"},
		{"[Nope!]", "null>null []>[]", "[null] 1 [1] {}"},
		{"[T]", "[null]>[null]", "{} [{}]"},
	} {
		checkValues(t, defs, api.Json{}, c.at, c.becomes, c.not)
	}
}

// Numbers as no text has them.
func TestValueNumbers(t *testing.T) {
	defs := types(t, wide)
	long := strings.Repeat("0", 61)
	for text, want := range map[string][2]string{ // by Int, by Float
		"1": {"1", "1e0"}, "-1": {"-1", "-1e0"}, "-0": {"0", "-0e0"}, "2147483647": {"2147483647", "2.147483647e9"}, "2147483648": {"", "2.147483648e9"}, "-2147483648": {"-2147483648", "-2.147483648e9"}, "-2147483649": {"", "-2.147483649e9"}, "4294967297": {"", "4.294967297e9"}, "18446744073709551617": {"", "1.8446744073709552e19"},
		"": {}, " ": {}, "+1": {}, "01": {}, "-01": {}, "00": {}, "-": {}, "1 ": {}, " 1": {}, "1_0": {}, "0x1": {}, "1.": {}, ".1": {}, "1e": {}, "a": {}, "Inf": {}, "NaN": {}, "null": {}, "1\x00": {}, "é": {}, "--1": {}, "１": {},
		"1.0": {"", "1e0"}, "1e1": {"", "1e1"}, "0.0": {"", "0e0"}, "1e309": {}, "-1e309": {}, "1e-400": {"", "0e0"}, "-1e-400": {"", "-0e0"},
		"1" + long: {"", "9.9999999999999995e60"}, "1" + long + "00": {"", "1.0000000000000001e63"}, "1" + long + "000": {}, "-1" + long + "0": {"", "-1e62"}, "-1" + long + "00": {}, long: {},
	} {
		for kind := -1; kind <= api.ValKinds; kind++ {
			if kind == api.ValVar || kind == api.ValNull {
				continue
			}
			v := api.Value{Kind: kind, Text: text}
			as := want
			if kind != api.ValInt {
				as[0] = ""
			}
			if kind != api.ValInt && kind != api.ValFloat {
				as[1] = ""
			}
			says(t, v, api.Ref{Name: "Int"}, defs, api.Json{}, as[0])
			says(t, v, api.Ref{Name: "Float"}, defs, api.Json{}, as[1])
			if j, is, e := told(t, v, api.Ref{Name: "ID"}, defs, api.Json{}); is != (kind == api.ValInt || kind == api.ValText) || is && !same(j, api.Json{Kind: api.JsonText, Text: text}) || !is && e != api.ErrCoerceValue {
				t.Errorf("%v by ID: %v, %d", v, j, e)
			}
		}
	}
}

// Texts, some of which are none.
func TestValueBytes(t *testing.T) {
	defs := append(types(t, wide), api.Def{Name: "X", Kind: api.DefEnum, Words: []string{"\xff", "", "A"}})
	for s, valid := range map[string]bool{"": true, "a": true, "\x00": true, "é": true, "\U0010ffff": true, "\xff": false, "a\xc3": false, "\xc0\x80": false, "\xed\xa0\x80": false, "é\xff": false} {
		for _, name := range []string{"String", "ID"} {
			v, is, e := told(t, api.Value{Kind: api.ValText, Text: s}, api.Ref{Name: name}, defs, api.Json{})
			if is != valid || is != (e == api.OK) || valid && !same(v, api.Json{Kind: api.JsonText, Text: s}) {
				t.Errorf("%q by %s: %v, %d", s, name, v, e)
			}
		}
		v, is, e := told(t, api.Value{Kind: api.ValEnum, Text: s}, api.Ref{Name: "X"}, defs, api.Json{})
		if is != (s == "\xff" || s == "") || is != (e == api.OK) || is && !same(v, api.Json{Kind: api.JsonText, Text: s}) {
			t.Errorf("%q: %v, %d", s, v, e)
		}
	}
}

// Every kind of value at every kind of definition, the first of its name, with all that other kinds have.
func TestValueKinds(t *testing.T) {
	known := json(t, "{\"7\":[true]}")
	for kind := -2; kind <= api.DefKinds+2; kind++ {
		for _, name := range []string{"Int", "Float", "String", "Boolean", "ID", "int", "E", "", "Nope"} {
			d := api.Def{Name: name, Kind: kind, Words: []string{"A", "7"}, Ins: []api.In{{Name: "x", Type: api.Ref{Name: name, Wraps: "["}}}}
			for k := -2; k <= api.ValKinds+2; k++ {
				v := api.Value{Kind: k, Text: "7", List: []api.Value{{Kind: api.ValNull}}, Names: []string{"x"}}
				want := kindsValue(kind, name, k)
				says(t, v, api.Ref{Name: name}, []api.Def{d}, known, want)
				says(t, v, api.Ref{Name: name}, []api.Def{{Name: name + "x"}, d, {Name: name}, {Name: name, Kind: api.DefEnum, Words: []string{"7"}}, {Name: name, Kind: api.DefObject}}, known, want)
				none := ""
				switch k {
				case api.ValVar:
					none = "[true]"
				case api.ValNull:
					none, want = "null", ""
				}
				says(t, v, api.Ref{Name: name + "y"}, []api.Def{d}, known, none)
				says(t, v, api.Ref{Name: name}, nil, known, none)
				says(t, v, api.Ref{Name: name, Wraps: "!"}, []api.Def{d}, known, want)
			}
		}
	}
}

// kindsValue is what a value of a kind, with the text 7, is by a definition, if it is anything.
func kindsValue(kind int, name string, k int) string {
	switch {
	case k == api.ValVar:
		return "[true]"
	case k == api.ValNull:
		return "null"
	case kind == api.DefEnum && k == api.ValEnum:
		return "\"7\""
	case kind == api.DefInput && k == api.ValObject:
		return "{\"x\":null}"
	case kind != api.DefScalar:
		return ""
	case name == "Int" && k == api.ValInt:
		return "7"
	case name == "Float" && (k == api.ValInt || k == api.ValFloat):
		return "7e0"
	case (name == "ID" || name == "String") && k == api.ValText, name == "ID" && k == api.ValInt:
		return "\"7\""
	case name == "Boolean" && k == api.ValFalse:
		return "false"
	case name == "Boolean" && k == api.ValTrue:
		return "true"
	}
	return ""
}

// P16.2: variables at the top.
func TestVariables(t *testing.T) {
	defs := types(t, wide)
	known := json(t, "{\"i\":1,\"n\":null,\"l\":[1,null],\"o\":{\"x\":[null,{}]},\"s\":\"a\",\"\":true}")
	for _, at := range []string{"Int", "String", "E", "TFilter", "[Int]", "[[Int!]!]", "T", "Nope"} {
		for name, want := range map[string]string{"i": "1", "n": "null", "l": "[1,null]", "o": "{\"x\":[null,{}]}", "s": "\"a\""} {
			must := want
			if name == "n" {
				must = ""
			}
			says(t, value(t, "$"+name), ref(t, at), defs, known, want)
			says(t, value(t, "$"+name), ref(t, at+"!"), defs, known, must)
		}
		for _, x := range []api.Json{known, {}, {Kind: api.JsonList, Keys: []string{"x"}, List: []api.Json{{Kind: api.JsonTrue}}}, {Keys: []string{"x"}, List: []api.Json{{Kind: api.JsonTrue}}}, {Kind: api.JsonObject, Keys: []string{"x"}}, {Kind: api.JsonObject, Keys: []string{"i", "x"}, List: []api.Json{{}}}, {Kind: api.JsonObject, List: []api.Json{{}}}, {Kind: -1, Keys: []string{"x"}, List: []api.Json{{Kind: api.JsonTrue}}}} {
			nothing(t, value(t, "$x"), ref(t, at), defs, x)
			nothing(t, value(t, "$x"), ref(t, at+"!"), defs, x)
		}
	}
	says(t, api.Value{Kind: api.ValVar}, ref(t, "Int!"), defs, known, "true")
	nothing(t, api.Value{Kind: api.ValVar}, ref(t, "Int!"), defs, json(t, "{\"a\":true}"))
	// Of two members of one name the first counts; one is there as it is, and null is one by its Kind alone.
	odd := api.Json{Kind: api.JsonObject, Keys: []string{"a", "a", "b", "b"}, List: []api.Json{full(api.JsonInt), {}, full(api.JsonNull), {Kind: api.JsonTrue}}}
	for _, name := range []string{"a", "b"} {
		v, is, e := told(t, value(t, "$"+name), ref(t, "[Nope]"), defs, odd)
		if want := full(map[string]int{"a": api.JsonInt, "b": api.JsonNull}[name]); !same(v, want) || !is || e != api.OK {
			t.Errorf("%v, %v, %d", v, is, e)
		}
	}
	says(t, value(t, "$b"), ref(t, "Int!"), defs, odd, "")
	bad := api.Json{Kind: api.JsonObject, Keys: []string{"a"}, List: []api.Json{{Kind: 77, Text: "\xff", Keys: []string{"x", "x"}}}}
	if v, is, e := told(t, value(t, "$a"), ref(t, "Int!"), defs, bad); !same(v, bad.List[0]) || !is || e != api.OK {
		t.Errorf("%v, %v, %d", v, is, e)
	}
}

// P16.2: variables in lists and in objects: as they are, where one is there.
func TestVariablesWithin(t *testing.T) {
	defs := types(t, wide)
	known := json(t, "{\"i\":1,\"n\":null,\"l\":[1,null],\"o\":{\"x\":[]},\"s\":\"a\"}")
	for _, c := range []struct{ at, becomes, not string }{
		{"[Int]", "[$i]>[1] [$i,$i]>[1,1] [$n]>[null] [$x]>[null] [1,$x,$l,$x]>[1,null,[1,null],null] [$o,2]>[{\"x\":[]},2]", "[$i,true] [true,$x]"},
		{"[Int!]", "[$i]>[1] [$l,$s]>[[1,null],\"a\"]", "[$n] [$x] [1,$n] [$x,1] [$i,null] [$i,$i,$x]"},
		{"[Int!]!", "[$i]>[1]", "[$n] [$x]"},
		{"[[Int!]]", "[$i]>[1] [[$i],$n]>[[1],null] [$x]>[null] [[],$x,[1]]>[[],null,[1]]", "[[$x]] [[$n]] [[1],[$x]]"},
		{"[[Int]!]", "[[$x],$l]>[[null],[1,null]]", "[$x] [$n]"},
		{"[Nope!]", "[$i]>[1]", "[$x] [$n] [$i,1]"},
		{"TFilter", "{a:$i}>{\"a\":1} {a:$x}>{} {a:$n}>{\"a\":null} {a:{eq:$x,lt:$i}}>{\"a\":{\"lt\":1}} {a:{in:$l}}>{\"a\":{\"in\":[1,null]}} {a:{in:$i}}>{\"a\":{\"in\":1}} {a:{in:$x,eq:1}}>{\"a\":{\"eq\":1}} {e:{in:[A,$s]}}>{\"e\":{\"in\":[\"A\",\"a\"]}} {and:{or:$o}}>{\"and\":[{\"or\":{\"x\":[]}}]} {not:{not:$x}}>{\"not\":{}} {and:[$o,{not:$n}]}>{\"and\":[{\"x\":[]},{\"not\":null}]}", "{a:{in:[$x]}} {a:{in:[$n]}} {and:[$x]} {b:$x} {a:$x,b:$i} {a:$x,e:{eq:C}} {e:{in:[A,$x]}}"},
		{"AddT", "{a:$i,o:$s}>{\"a\":1,\"o\":\"a\"} {o:$o,a:1,e:$x,b:$i}>{\"a\":1,\"b\":1,\"o\":{\"x\":[]}} {a:$i,o:true,e:$n,f:$x}>{\"a\":1,\"e\":null,\"o\":true}", "{a:$x,o:true} {a:$n,o:true} {a:$i} {a:$i,o:true,x:$x} {a:1,o:$x}"},
		{"[AddT!]!", "{a:$i,o:$i}>[{\"a\":1,\"o\":1}] [$i,{a:1,o:true}]>[1,{\"a\":1,\"o\":true}]", "[$x] {a:$x,o:true} [{a:1,o:true},{a:1,o:$n}]"},
	} {
		checkValues(t, defs, known, c.at, c.becomes, c.not)
	}
	// Without any, each of them says nothing.
	checkValues(t, defs, api.Json{}, "TFilter", "{a:$i,e:{eq:$n},f:$o}>{\"e\":{}} {and:[],or:$l}>{\"and\":[]}", "{and:[$i]}")
	checkValues(t, defs, api.Json{}, "AddT", "", "{a:$i,o:true}")
	// A variable may have what it likes beside its name.
	says(t, api.Value{Kind: api.ValVar, Text: "i", List: []api.Value{{Kind: api.ValTrue}}, Names: []string{"a"}}, ref(t, "Int!"), defs, known, "1")
}

// A list is one by its Kind alone, an object is, too.
func TestValueFull(t *testing.T) {
	defs := append(types(t, wide), api.Def{Name: "I", Kind: api.DefInput, Ins: []api.In{in(t, "x", "Boolean")}})
	for kind := -1; kind <= api.ValKinds; kind++ {
		v := api.Value{Kind: kind, Text: "1", List: []api.Value{{Kind: api.ValTrue}}, Names: []string{"x"}}
		if kind == api.ValVar {
			nothing(t, v, ref(t, "[Int]"), defs, api.Json{})
			continue
		}
		says(t, v, ref(t, "[Int]"), defs, api.Json{}, map[int]string{api.ValNull: "null", api.ValInt: "[1]"}[kind])
		says(t, v, ref(t, "[Boolean]"), defs, api.Json{}, map[int]string{api.ValNull: "null", api.ValTrue: "[true]", api.ValFalse: "[false]", api.ValList: "[true]"}[kind])
		says(t, v, ref(t, "I!"), defs, api.Json{}, map[int]string{api.ValObject: "{\"x\":true}"}[kind])
		says(t, v, ref(t, "[I]!"), defs, api.Json{}, map[int]string{api.ValObject: "[{\"x\":true}]"}[kind])
	}
}

// The steps' order, and ends that are none.
func TestValueSteps(t *testing.T) {
	defs := types(t, wide)
	list := api.Value{Kind: api.ValList, List: []api.Value{{}}}
	known := json(t, "{\"n\":null}")
	for wraps, want := range map[string][4]string{ // null, 1, a list of null, a variable that is null
		"": {"null", "1", "", "null"}, "!": {"", "1", "", ""}, "!!": {"", "1", "", ""}, "[": {"null", "[1]", "[null]", "null"}, "![": {"null", "[1]", "", "null"}, "[!": {"", "[1]", "[null]", ""}, "![!": {"", "[1]", "", ""},
		"[[": {"null", "[[1]]", "[null]", "null"}, "[![": {"null", "[[1]]", "", "null"}, "![[": {"null", "[[1]]", "[null]", "null"}, "[!!": {"", "[1]", "[null]", ""},
		"?": {"null", "1", "", "null"}, "!?": {"null", "1", "", "null"}, "?!": {"", "1", "", ""}, "[?": {"null", "1", "", "null"}, "?[": {"null", "[1]", "[null]", "null"}, "]": {"null", "1", "", "null"}, "\x00": {"null", "1", "", "null"}, "\xff[": {"null", "[1]", "[null]", "null"},
	} {
		at := api.Ref{Name: "Int", Wraps: wraps}
		says(t, api.Value{}, at, defs, known, want[0])
		says(t, value(t, "1"), at, defs, known, want[1])
		says(t, list, at, defs, known, want[2])
		says(t, value(t, "$n"), at, defs, known, want[3])
		nothing(t, value(t, "$x"), at, defs, known)
	}
}

// Objects: with names that no In has, with two of one name, with Names and List of unlike lengths; Ins with one name.
func TestValueObjects(t *testing.T) {
	one, yes, null, x := value(t, "1"), value(t, "true"), api.Value{}, value(t, "$x")
	a, b, must := in(t, "a", "Int"), in(t, "b", "Boolean"), in(t, "b", "Boolean!")
	check := func(names string, l []api.Value, want string, ins ...api.In) {
		t.Helper()
		defs := append(types(t, wide), api.Def{Name: "I", Kind: api.DefInput, Ins: ins})
		v := api.Value{Kind: api.ValObject, List: l}
		if names != "" {
			v.Names = strings.Split(names, ",")
		}
		says(t, v, ref(t, "I"), defs, api.Json{}, want)
	}
	check("", nil, "{}")
	check("", nil, "", a, must)
	check("b,a", []api.Value{yes, one}, "{\"a\":1,\"b\":true}", a, must)
	check("b,a", []api.Value{yes, one}, "{\"b\":true,\"a\":1}", b, a)
	check("b,a", []api.Value{one, yes}, "", a, b)
	check("b", []api.Value{null}, "", a, must)
	check("b", []api.Value{null}, "{\"b\":null}", a, b)
	// Names that no In has.
	check("x", []api.Value{null}, "", a, b)
	check("x", []api.Value{x}, "", a, b)
	check("x", nil, "", a, b)
	check("a,x", []api.Value{one, one}, "", a, b)
	check("a,A", []api.Value{one, one}, "", a, b)
	check("a", []api.Value{one}, "")
	check("", []api.Value{one}, "{}", a, b)
	check("a,", []api.Value{one, yes}, "{\"\":true,\"a\":1}", api.In{Type: b.Type}, a)
	// Two of one name: the first counts, the other is not looked at; neither, if the first says nothing.
	check("a,a", []api.Value{one, yes}, "{\"a\":1}", a, b)
	check("a,a", []api.Value{yes, one}, "", a, b)
	check("a,b,a", []api.Value{one, yes, null}, "{\"a\":1,\"b\":true}", a, b)
	check("a,a", []api.Value{x, one}, "{}", a, b)
	check("b,b", []api.Value{x, yes}, "", a, must)
	check("b,b", []api.Value{null, yes}, "", a, must)
	check("b,b", []api.Value{yes, x}, "{\"b\":true}", a, must)
	// As far as List goes.
	check("a,b", []api.Value{one}, "{\"a\":1}", a, b)
	check("a,b", []api.Value{one}, "", a, must)
	check("a,b", nil, "{}", a, b)
	check("b", nil, "", a, must)
	check("a,a", []api.Value{one}, "{\"a\":1}", a, b)
	check("a,b,x", []api.Value{one}, "", a, b)
	check("a", []api.Value{one, yes}, "{\"a\":1}", a, b)
	check("", []api.Value{one, yes}, "", must)
	// Two Ins of one name: the first counts.
	check("a", []api.Value{one}, "{\"a\":1}", a, in(t, "a", "Boolean!"))
	check("a", []api.Value{yes}, "", a, in(t, "a", "Boolean!"))
	check("a", []api.Value{yes}, "{\"a\":true}", in(t, "a", "Boolean!"), a, a)
	check("", nil, "{}", a, in(t, "a", "Boolean!"))
	check("", nil, "", in(t, "a", "Boolean!"), a)
	check("a", []api.Value{x}, "{}", a, in(t, "a", "Boolean!"))
	check("b,a", []api.Value{yes, one}, "{\"a\":1,\"b\":true}", a, b, a, must, a)
}

// Fields of which nothing is known, behind others that may not be: nothing is told of them.
func TestValueNested(t *testing.T) {
	defs := append(types(t, wide), api.Def{Name: "I", Kind: api.DefInput, Ins: []api.In{in(t, "n", "Int!"), in(t, "i", "I"), in(t, "l", "[I!]"), in(t, "x", "Nope"), in(t, "q", "Query"), in(t, "e", "E")}})
	checkValues(t, defs, json(t, "{\"v\":7}"), "I",
		"{n:1}>{\"n\":1} {i:{n:2},n:1}>{\"n\":1,\"i\":{\"n\":2}} {l:{l:[],n:2},n:1}>{\"n\":1,\"l\":[{\"n\":2,\"l\":[]}]} {n:1,x:null,q:null}>{\"n\":1,\"x\":null,\"q\":null} {n:$v,x:$v,q:$v}>{\"n\":7,\"x\":7,\"q\":7} {n:1,l:[{n:1,i:null},{n:2,e:A}]}>{\"n\":1,\"l\":[{\"n\":1,\"i\":null},{\"n\":2,\"e\":\"A\"}]} {n:1,i:{n:1,i:{n:1,i:{n:$v}}}}>{\"n\":1,\"i\":{\"n\":1,\"i\":{\"n\":1,\"i\":{\"n\":7}}}}",
		"{} {n:null} {n:$y} {n:1,i:{}} {n:1,l:[{n:1},{}]} {n:1,l:[null]} {n:1,l:[$y]} {n:1,x:1} {n:1,q:{}} {n:1,i:{n:1,i:{n:1,i:{n:$y}}}} {n:1,l:[{n:1,e:C}]} {n:1,i:[{n:1}]}")
	if v, is, e := coerce.Value(api.Value{Kind: api.ValObject}, api.Ref{Name: "I"}, []api.Def{{Name: "I", Kind: api.DefInput}}, api.Json{}); e != api.OK || !is || v.Kind != api.JsonObject {
		t.Errorf("%v, %v, %d", v, is, e)
	}
}
