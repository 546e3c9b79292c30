package values_test

import (
	"reflect"
	"slices"
	"strings"
	"testing"

	"rhizome/api"
	"rhizome/values"
)

// holds holds Fits against the model and against what is wanted.
func holds(t *testing.T, v api.Value, at api.Ref, defs []api.Def, want bool) {
	t.Helper()
	v, value := untouched(t, v)
	defs, types := untouched(t, defs)
	if is, model := values.Fits(v, at, defs), modelFits(v, at, defs); is != want || model != want {
		t.Errorf("%s at %v of %s: %v, not %v; the model: %v", short(v), at, short(defs), is, want, model)
	}
	value()
	types()
}

// P13.1, Fits: scalars, enums and inputs of a schema.
func TestFitsTexts(t *testing.T) {
	defs := types(t, wide)
	for _, c := range []struct{ at, fit, not string }{
		{"Int", "0 -0 1 -1 null $x 2147483647 -2147483648", "1.0 0.0 -1.5 1e0 1E2 \"1\" true false A [] [1] {} {a:1} 2147483648 -2147483649 9223372036854775808 -99999999999999999999999999"},
		{"Float", "0 -0 1 1.5 -1e5 1E-3 2.5e+300 1e-999 null $x 2147483648 99999999999999999999999999", "1e999 -1e309 \"1\" true A [] [1.5] {}"},
		{"String", "\"\" \"a\" \"1\" null $x", "1 1.5 true A [] [\"a\"] {}"},
		{"Boolean", "true false null $x", "1 0 \"true\" True A [] [true] {}"},
		{"ID", "1 -1 0 \"\" \"a\" 99999999999999999999999999 null $x", "1.5 1e5 true A [] [1] {}"},
		{"E", "A B null $x", "C a AA \"A\" 1 true [] [A] {} {A:A}"},
		{"TOrderable", "id a e f s o null", "b u asc \"a\" 1"},
		{"TOrder", "{} {asc:a} {asc:a,desc:id,then:{asc:e}} {asc:null} {asc:$x,then:$y} null $x", "{asc:b} {then:{asc:x}} {then:[]} {asc:\"a\"} 1 a \"a\" [] [{}] true"},
		{"TFilter", "{} {a:{eq:1}} {and:[]} {and:{}} {and:[{},{or:{not:{}}}]} {id:1} {id:[1,\"a\"]} {id:[]} {e:{in:A}} {e:{in:[A,B]}} {and:null} {x:1} {x:{a:A},y:[]} {a:{x:A}} {and:[$x]}", "{a:1} {a:{eq:1.5}} {and:[null]} {and:[1]} {and:[[]]} {not:[]} {not:[{}]} {id:[null]} {id:A} {x:1,a:{eq:A}} {e:{in:[A,C]}} {and:[{},{or:{not:{a:1}}}]} 1 []"},
		{"AddT", "{} {a:1} {a:1,b:1} {b:[]} {a:$x} {b:null} {o:true}", "{a:null} {a:1.5} {b:[null]} {a:[1]} {b:[[1]]} {o:null} {o:1}"},
		{"T", "1 1.5 \"a\" true A [] [{}] {} {a:A} null $x", ""},
		{"Nope", "1 1.5 \"a\" true A [] [{}] {} {a:A} null $x", ""},
		{"Int!", "1 $x -0", "null 1.5 [] [1]"},
		{"[Int]", "null $x 1 [] [1] [1,null,$x] [null]", "1.5 [1.5] [1,[1]] [[]] A {} [1,2,true]"},
		{"[Int!]", "null $x 1 [] [1] [1,$x]", "[null] [1,null] [[1]] true"},
		{"[Int]!", "$x 1 [] [1] [null]", "null true [true]"},
		{"[Int!]!", "$x 1 [] [1]", "null [null] true"},
		{"[[Int]]", "null 1 [] [1] [[1]] [1,[2,null],null] [[]]", "[[[]]] [[[1]]] [true] [[true]] A"},
		{"[[Int!]!]", "null 1 [] [1] [[1]] [1,[2]] [[]]", "[null] [[null]] [[[1]]]"},
		{"[E!]", "A [A,B] []", "C [A,C] [null]"},
		{"[AddT!]!", "{a:1} [{a:1},{}] []", "null [null] [[{}]] [{a:A}] 1"},
		{"[Nope!]", "1 [1,[2]] null {}", "[null]"},
		{"T!", "1 [] {}", "null"},
	} {
		for _, text := range strings.Fields(c.fit) {
			holds(t, value(t, text), ref(t, c.at), defs, true)
		}
		for _, text := range strings.Fields(c.not) {
			holds(t, value(t, text), ref(t, c.at), defs, false)
		}
	}
}

// Numbers as no text has them.
func TestFitsNumbers(t *testing.T) {
	long := strings.Repeat("0", 61)
	for text, want := range map[string]string{
		"1": "IF", "-1": "IF", "-0": "IF", "0": "IF", "2147483647": "IF", "2147483648": "F", "-2147483648": "IF", "-2147483649": "F", "4294967296": "F", "4294967297": "F", "18446744073709551617": "F",
		"": "", " ": "", "+1": "", "01": "", "-01": "", "00": "", "-": "", "1 ": "", " 1": "", "1_0": "", "0x1": "", "1.": "", ".1": "", "1e": "", "a": "", "Inf": "", "NaN": "", "null": "", "1\x00": "", "é": "", "--1": "", "1,0": "", "１": "",
		"1.0": "F", "1e1": "F", "1E1": "F", "0.0": "F", "-0.0": "F", "1e+1": "F", "1e-1": "F", "1e308": "F", "1e309": "", "-1e309": "", "1.7976931348623157e308": "F", "1.7976931348623159e308": "", "1e-400": "F",
		"1" + long: "F", "1" + long + "00": "F", "1" + long + "000": "", "-1" + long + "0": "F", "-1" + long + "00": "", long: "",
	} {
		for kind := -1; kind <= api.ValKinds; kind++ {
			if kind == api.ValVar || kind == api.ValNull {
				continue
			}
			v := api.Value{Kind: kind, Text: text}
			holds(t, v, api.Ref{Name: "Int"}, roots(), kind == api.ValInt && strings.Contains(want, "I"))
			holds(t, v, api.Ref{Name: "Float"}, roots(), (kind == api.ValInt || kind == api.ValFloat) && strings.Contains(want, "F"))
			holds(t, v, api.Ref{Name: "ID"}, roots(), kind == api.ValInt || kind == api.ValText)
			holds(t, v, api.Ref{Name: "String"}, roots(), kind == api.ValText)
			holds(t, v, api.Ref{Name: "Boolean"}, roots(), kind == api.ValFalse || kind == api.ValTrue)
		}
	}
}

// Every kind of value at every kind of definition, the first of its name.
func TestFitsKinds(t *testing.T) {
	for kind := -2; kind <= api.DefKinds+2; kind++ {
		for _, name := range []string{"Int", "Float", "String", "Boolean", "ID", "int", "E", "", "Nope"} {
			d := api.Def{Name: name, Kind: kind, Words: []string{"A", ""}, Ins: []api.In{{Name: "x", Type: api.Ref{Name: name, Wraps: "!"}}}}
			for v := -2; v <= api.ValKinds+2; v++ {
				for _, text := range []string{"A", "B", "1", ""} {
					x := api.Value{Kind: v, Text: text}
					want := v == api.ValVar || v == api.ValNull || kind < 0 || kind == api.DefObject || kind >= api.DefKinds
					switch kind {
					case api.DefScalar:
						want = want || name == "Int" && v == api.ValInt && text == "1" || name == "Float" && (v == api.ValInt || v == api.ValFloat) && text == "1" ||
							name == "String" && v == api.ValText || name == "Boolean" && (v == api.ValFalse || v == api.ValTrue) || name == "ID" && (v == api.ValText || v == api.ValInt)
					case api.DefEnum:
						want = want || v == api.ValEnum && (text == "A" || text == "")
					case api.DefInput:
						want = want || v == api.ValObject
					}
					holds(t, x, api.Ref{Name: name}, []api.Def{d}, want)
					holds(t, x, api.Ref{Name: name}, []api.Def{{Name: name + "x"}, d, {Name: name}, {Name: name, Kind: api.DefEnum}, {Name: name, Kind: api.DefObject}}, want)
					holds(t, x, api.Ref{Name: name + "y"}, []api.Def{d}, true)
					holds(t, x, api.Ref{Name: name, Wraps: "!"}, []api.Def{d}, want && v != api.ValNull)
				}
			}
		}
	}
}

// The steps' order: a variable fits ahead of all, null is asked of the end alone.
func TestFitsSteps(t *testing.T) {
	defs := append(roots(), api.Def{Name: "Odd"})
	for wraps, fits := range map[string][3]bool{ // a variable, null, a list of null
		"": {true, true, false}, "!": {true, false, false}, "[": {true, true, true}, "![": {true, true, false}, "[!": {true, false, true}, "![!": {true, false, false},
		"!!": {true, false, false}, "[[": {true, true, true}, "[![": {true, true, false}, "![[": {true, true, true}, "?": {true, true, false}, "!?": {true, true, false}, "?!": {true, false, false}, "[?": {true, true, false}, "?[": {true, true, true}, "]": {true, true, false}, "\x00": {true, true, false}, "\xff[": {true, true, true},
	} {
		for _, name := range []string{"Int", "Odd"} {
			at := api.Ref{Name: name, Wraps: wraps}
			holds(t, variable("x"), at, defs, fits[0])
			holds(t, api.Value{}, at, defs, fits[1])
			holds(t, api.Value{Kind: api.ValList, List: []api.Value{{}}}, at, defs, fits[2])
		}
	}
	// A variable may have what it likes beside its name.
	holds(t, api.Value{Kind: api.ValVar, List: []api.Value{{Kind: api.ValTrue}}, Names: []string{"a"}}, api.Ref{Name: "Int", Wraps: "!"}, defs, true)
	// A list is one by its Kind alone.
	for kind := -1; kind <= api.ValKinds; kind++ {
		x := api.Value{Kind: kind, Text: "1", List: []api.Value{{Kind: api.ValTrue}}}
		holds(t, x, api.Ref{Name: "Int", Wraps: "["}, defs, kind == api.ValVar || kind == api.ValNull || kind == api.ValInt)
		holds(t, x, api.Ref{Name: "Boolean", Wraps: "["}, defs, kind == api.ValVar || kind == api.ValNull || kind == api.ValFalse || kind == api.ValTrue || kind == api.ValList)
	}
}

// Objects: with names that no In has, with two of one name, with Names and List of unlike lengths.
func TestFitsObjects(t *testing.T) {
	number, flag := api.Value{Kind: api.ValInt, Text: "1"}, api.Value{Kind: api.ValTrue}
	at := api.Ref{Name: "I"}
	check := func(want bool, names []string, l []api.Value, ins ...api.In) {
		t.Helper()
		defs := append(roots(), api.Def{Name: "I", Kind: api.DefInput, Ins: ins})
		holds(t, api.Value{Kind: api.ValObject, Names: names, List: l}, at, defs, want)
		// Only an object fits, whatever it has.
		for kind := api.ValFalse; kind <= api.ValKinds; kind++ {
			if kind != api.ValObject && kind != api.ValVar {
				holds(t, api.Value{Kind: kind, Names: names, List: l}, at, defs, false)
			}
		}
	}
	a, b := ins("Int")[0], api.In{Name: "b", Type: api.Ref{Name: "Boolean", Wraps: "!"}}
	check(true, nil, nil)
	check(true, nil, nil, a, b)
	check(true, []string{"a"}, []api.Value{number}, a, b)
	check(true, []string{"b", "a"}, []api.Value{flag, number}, a, b)
	check(false, []string{"b", "a"}, []api.Value{number, flag}, a, b)
	check(false, []string{"a", "b"}, []api.Value{number, {}}, a, b)
	check(true, []string{"a", "b"}, []api.Value{{}, flag}, a, b)
	check(true, []string{"x", "", "A"}, []api.Value{number, flag, {}}, a, b)
	check(false, []string{"x", "a"}, []api.Value{number, flag}, a, b)
	check(true, []string{"a", "a"}, []api.Value{number, number}, a)
	check(false, []string{"a", "a"}, []api.Value{number, flag}, a)
	check(false, []string{"a", "a"}, []api.Value{flag, number}, a)
	// Of two Ins of one name the first counts.
	check(true, []string{"a"}, []api.Value{number}, ins("Int", "Boolean")...)
	check(false, []string{"a"}, []api.Value{flag}, ins("Int", "Boolean")...)
	check(true, []string{"a"}, []api.Value{flag}, ins("Boolean", "Int", "Int")...)
	check(true, []string{""}, []api.Value{flag}, api.In{Type: api.Ref{Name: "Boolean"}})
	check(false, []string{""}, []api.Value{flag}, api.In{Type: api.Ref{Name: "Int"}})
	// As far as both go.
	check(true, []string{"a", "b"}, []api.Value{number}, a, b)
	check(false, []string{"a", "b"}, []api.Value{flag}, a, b)
	check(true, []string{"a", "b"}, nil, a, b)
	check(true, nil, []api.Value{number, flag}, a, b)
	check(true, []string{"a"}, []api.Value{number, number}, a, b)
	check(false, []string{"a"}, []api.Value{flag, flag}, a, b)
	// What may be needed is not asked for.
	check(true, nil, nil, b, b)
	check(true, []string{"a"}, []api.Value{number}, b, a)
}

// pieces are values of all kinds, some of them with others in them.
func pieces() []api.Value {
	var l []api.Value
	for kind := -1; kind <= api.ValKinds; kind++ {
		l = append(l, api.Value{Kind: kind, Text: "1"})
	}
	l = append(l, api.Value{Kind: api.ValInt, Text: "1.5"}, api.Value{Kind: api.ValFloat, Text: "1e999"}, api.Value{Kind: api.ValEnum, Text: "A"}, variable("x"))
	for _, x := range slices.Clone(l) {
		l = append(l, api.Value{Kind: api.ValList, List: []api.Value{x}}, api.Value{Kind: api.ValObject, Names: []string{"a"}, List: []api.Value{x}})
	}
	return l
}

// nested are the pieces, and lists and objects of one and of two of them.
func nested() []api.Value {
	l := pieces()
	for _, x := range pieces() {
		l = append(l, api.Value{Kind: api.ValList, List: []api.Value{x}}, api.Value{Kind: api.ValObject, Names: []string{"i"}, List: []api.Value{x}}, api.Value{Kind: api.ValObject, Names: []string{"l", "y"}, List: []api.Value{x, x}})
		for _, y := range pieces() {
			l = append(l, api.Value{Kind: api.ValList, List: []api.Value{x, y}}, api.Value{Kind: api.ValObject, Names: []string{"a", "i"}, List: []api.Value{x, y}}, api.Value{Kind: api.ValObject, Names: []string{"l", "a"}, List: []api.Value{x, y}})
		}
	}
	return l
}

// odd are definitions of all kinds, with an input that holds itself.
func odd() []api.Def {
	l := append(roots(), api.Def{Name: "E", Kind: api.DefEnum, Words: []string{"A", "1"}}, api.Def{Name: "O", Kind: api.DefObject}, api.Def{Name: "N", Kind: -1}, api.Def{Name: "N", Kind: api.DefInput}, api.Def{Name: "S"}, api.Def{Name: "K", Kind: api.DefKinds})
	return append(l, api.Def{Name: "I", Kind: api.DefInput, Ins: []api.In{
		{Name: "a", Type: api.Ref{Name: "Int", Wraps: "!"}}, {Name: "i", Type: api.Ref{Name: "I"}}, {Name: "l", Type: api.Ref{Name: "I", Wraps: "!["}}, {Name: "a", Type: api.Ref{Name: "Float"}}}})
}

// wraps are all of at most n signs.
func wraps(n int, signs ...string) []string {
	var l []string
	for _, row := range rows(n, signs) {
		l = append(l, strings.Join(row, ""))
	}
	return l
}

// All small values at all small types.
func TestFitsShort(t *testing.T) {
	defs := odd()
	all := nested()
	for _, name := range []string{"Int", "Float", "String", "Boolean", "ID", "E", "O", "N", "S", "K", "I", "Nope"} {
		for _, w := range wraps(3, "!", "[", "?") {
			if name != "I" && name != "Int" && len(w) == 3 {
				continue
			}
			at := api.Ref{Name: name, Wraps: w}
			for _, v := range all {
				if is, want := values.Fits(v, at, defs), modelFits(v, at, defs); is != want {
					t.Fatalf("%v at %v: %v, not %v", v, at, is, want)
				}
			}
		}
	}
}

// P13.2: what fits a type that may not be null fits the type that may.
func TestFitsMay(t *testing.T) {
	defs := odd()
	fit := 0
	for _, name := range []string{"Int", "Float", "E", "O", "S", "I", "Nope"} {
		for _, w := range wraps(2, "!", "[", "?") {
			for _, v := range nested() {
				must, may := values.Fits(v, api.Ref{Name: name, Wraps: w + "!"}, defs), values.Fits(v, api.Ref{Name: name, Wraps: w}, defs)
				if must && !may || !must && may && v.Kind != api.ValNull {
					t.Fatalf("%v at %s, %q: %v, but with the sign %v", v, name, w, may, must)
				}
				if must {
					fit++
				}
			}
		}
	}
	if fit < 1000 {
		t.Errorf("only %d fit", fit)
	}
}

// R3, R4: what is handed in stays as it is, and a list that is not there is as an empty one.
func TestFitsEmpty(t *testing.T) {
	defs := odd()
	for _, v := range nested()[:200] {
		for _, name := range []string{"Int", "I", "O"} {
			at := api.Ref{Name: name, Wraps: "!["}
			holds(t, v, at, defs, modelFits(v, at, defs))
			if values.Fits(emptied(v), at, emptied(defs)) != values.Fits(copied(v), at, copied(defs)) {
				t.Fatalf("%v", v)
			}
		}
	}
	if !reflect.DeepEqual(defs, odd()) {
		t.Error("the definitions were changed")
	}
}
