package coerce_test

import (
	"math"
	"strings"
	"testing"

	"rhizome/api"
	"rhizome/coerce"
	"rhizome/floats"
)

// P16.1: scalars, enums and inputs of a schema; each word of becomes is a value, or, with `>`, what becomes of it.
func TestInputTexts(t *testing.T) {
	defs := types(t, wide)
	for _, c := range []struct{ at, becomes, not string }{
		{"Int", "null 0 1 -1 2147483647 -2147483648", "true false 2147483648 -2147483649 4294967296 9007199254740991 -9007199254740991 1.0 1e0 -0 0.0 1.5 \"1\" \"\" \"A\" [] [1] {} {\"a\":1}"},
		{"Float", "null 0>0e0 -0>-0e0 0.0>0e0 1>1e0 -1>-1e0 1.5>1.5e0 -1.5e300>-1.5000000000000001e300 1e-999>0e0 2147483648>2.147483648e9 9007199254740991>9.007199254740991e15 -9007199254740991>-9.007199254740991e15 9007199254740993>9.007199254740992e15 1.7976931348623157e308 4.9406564584124654e-324", "true false \"1\" \"1.5\" \"Inf\" [] [1.5] {}"},
		{"String", "null \"\" \"a\" \"1\" \"null\" \"é\" \"\\u0000\\ud83d\\ude00\">\"\\u0000😀\"", "true false 1 1.5 [] [\"a\"] {}"},
		{"Boolean", "null true false", "0 1 1.5 \"true\" \"\" [] [true] {}"},
		{"ID", "null \"\" \"a\" \"1\" \"-1\" \"é\" 0>\"0\" 1>\"1\" -1>\"-1\" -10>\"-10\" 2147483648>\"2147483648\" 9007199254740991>\"9007199254740991\" -9007199254740991>\"-9007199254740991\"", "true false 1.0 1.5 -0 1e3 [] [1] [\"a\"] {}"},
		{"E", "null \"A\" \"B\"", "true 0 1 1.5 \"C\" \"a\" \"AA\" \"\" \"E\" \"A,B\" [] [\"A\"] {} {\"A\":\"A\"}"},
		{"TOrderable", "null \"id\" \"a\" \"o\"", "\"b\" \"u\" \"asc\" \"\" 1"},
		{"TOrder", "null {} {\"asc\":\"a\"} {\"then\":{\"asc\":\"e\"},\"desc\":\"id\",\"asc\":null}>{\"asc\":null,\"desc\":\"id\",\"then\":{\"asc\":\"e\"}} {\"then\":{\"then\":{\"then\":null}}}", "{\"asc\":\"b\"} {\"then\":{\"asc\":\"x\"}} {\"then\":[]} {\"then\":[{}]} {\"x\":null} {\"\":1} 1 \"a\" [] [{}] true"},
		{"TFilter", "{} {\"and\":{}}>{\"and\":[{}]} {\"and\":[]} {\"and\":null} {\"and\":[{},{\"or\":{\"not\":{}}}]}>{\"and\":[{},{\"or\":[{\"not\":{}}]}]} {\"id\":1}>{\"id\":[\"1\"]} {\"id\":[2,\"a\"],\"a\":{\"in\":1}}>{\"id\":[\"2\",\"a\"],\"a\":{\"in\":[1]}} {\"e\":{\"in\":\"A\",\"eq\":\"B\"},\"f\":{\"lt\":1}}>{\"e\":{\"eq\":\"B\",\"in\":[\"A\"]},\"f\":{\"lt\":1e0}}", "{\"and\":[null]} {\"and\":[1]} {\"and\":[[]]} {\"not\":[]} {\"not\":[{}]} {\"id\":[null]} {\"a\":1} {\"a\":{\"eq\":1.5}} {\"a\":{\"eq\":{}}} {\"a\":{\"begins\":\"1\"}} {\"x\":1} {\"e\":{\"in\":[\"A\",\"C\"]}} {\"id\":true} [] [{}]"},
		{"AddT", "null {\"a\":1,\"o\":true} {\"o\":false,\"a\":0}>{\"a\":0,\"o\":false} {\"u\":7,\"b\":8,\"s\":\"\",\"a\":1,\"o\":true,\"f\":1,\"e\":\"A\"}>{\"a\":1,\"b\":[\"8\"],\"e\":\"A\",\"f\":1e0,\"s\":\"\",\"o\":true,\"u\":\"7\"} {\"a\":1,\"o\":true,\"e\":null,\"b\":null,\"u\":null}>{\"a\":1,\"b\":null,\"e\":null,\"o\":true,\"u\":null}", "{} {\"a\":1} {\"o\":true} {\"a\":null,\"o\":true} {\"a\":1,\"o\":null} {\"a\":1,\"o\":true,\"x\":1} {\"a\":1,\"o\":true,\"id\":1} {\"a\":1,\"o\":true,\"A\":1} {\"a\":1,\"o\":true,\"b\":[null]} {\"a\":1,\"o\":true,\"b\":[[1]]} {\"a\":1,\"o\":1} [] 1 \"a\" true"},
		{"PatchT", "{} {\"o\":null,\"a\":null}>{\"a\":null,\"o\":null}", "{\"x\":1} {\"id\":1}"},
		{"T", "null", "{} {\"a\":1} 1 \"1\" true [] [{}]"},
		{"Query", "null", "{} 1 []"},
		{"Nope", "null", "{} {\"a\":1} 1 1.5 \"1\" true []"},
		{"Int!", "0 1", "null true [] [1]"},
		{"ID!", "1>\"1\"", "null [1]"},
		{"AddT!", "{\"a\":1,\"o\":true}", "null {}"},
		{"T!", "", "null {}"},
		{"Nope!", "", "null 1"},
	} {
		check(t, defs, c.at, c.becomes, c.not)
	}
}

// P16.1: lists.
func TestInputLists(t *testing.T) {
	defs := types(t, wide)
	for _, c := range []struct{ at, becomes, not string }{
		{"[Int]", "null [] 1>[1] [1] [1,null,2] [null]", "true [true] [1,true] [[1]] [[]] [1,[2]] {} \"1\" 2147483648 [1,2147483648]"},
		{"[Int!]", "null [] 1>[1] [1,2]", "[null] [1,null] [null,1] [[1]] true"},
		{"[Int]!", "[] 1>[1] [null]", "null true [true]"},
		{"[Int!]!", "[] 1>[1] [1]", "null [null] [1,null] true"},
		{"[ID!]", "1>[\"1\"] \"a\">[\"a\"] [1,\"1\"]>[\"1\",\"1\"]", "[1,null] [1.5] true"},
		{"[[Int]]", "null [] 1>[[1]] [1]>[[1]] [[1]] [null] [[null]] [[]] [1,[2,null],null]>[[1],[2,null],null]", "[[[]]] [[[1]]] [true] [[true]] true"},
		{"[[Int!]!]!", "[] 1>[[1]] [1]>[[1]] [1,[2]]>[[1],[2]] [[]]", "null [null] [[null]] [[[1]]]"},
		{"[[[Int]]]", "1>[[[1]]] [1]>[[[1]]] [[1]]>[[[1]]] [[[1]]] [[],[[]]]", "[[[[]]]] [[[[1]]]]"},
		{"[E!]", "\"A\">[\"A\"] [\"B\",\"A\",\"B\"]", "\"C\" [\"A\",\"C\"]"},
		{"[AddT!]!", "{\"o\":true,\"a\":1}>[{\"a\":1,\"o\":true}] [{\"a\":1,\"o\":true},{\"a\":2,\"o\":false}]", "null [null] {} [{}] [{\"a\":1,\"o\":true},{\"a\":2}] [[{\"a\":1,\"o\":true}]] 1"},
		{"[T]", "null [] [null] [null,null]", "{} [{}] [1] 1"},
		{"[T!]", "null []", "[null] {}"},
		{"[[Nope]]", "null [] [[],null,[null]]", "[1] [[1]] 1"},
	} {
		check(t, defs, c.at, c.becomes, c.not)
	}
}

func check(t *testing.T, defs []api.Def, at, fit, not string) {
	t.Helper()
	for _, text := range strings.Fields(fit) {
		from, want, unlike := strings.Cut(text, ">")
		if !unlike {
			want = from
		}
		j, e := inputs(t, json(t, from), ref(t, at), defs)
		becomes(t, from+" by "+at, j, e, want, api.ErrCoerceVar)
	}
	for _, text := range strings.Fields(not) {
		j, e := inputs(t, json(t, text), ref(t, at), defs)
		becomes(t, text+" by "+at, j, e, "", api.ErrCoerceVar)
	}
}

// Numbers that no JSON text comes to, and those at the edges.
func TestInputNumbers(t *testing.T) {
	defs := types(t, wide)
	at := func(name string) api.Ref { return api.Ref{Name: name} }
	for n, digits := range map[int]string{
		0: "0", 1: "1", -1: "-1", 9: "9", 10: "10", -10: "-10", math.MaxInt32: "2147483647", math.MinInt32: "-2147483648", math.MaxInt32 + 1: "2147483648", math.MinInt32 - 1: "-2147483649",
		1 << 32: "4294967296", -1 << 32: "-4294967296", 1<<32 + 1: "4294967297", math.MaxUint32: "4294967295", api.MaxInt: "9007199254740991", -api.MaxInt: "-9007199254740991", api.MaxInt + 2: "9007199254740993", -api.MaxInt - 2: "-9007199254740993",
		math.MaxInt: "9223372036854775807", math.MinInt: "-9223372036854775808", math.MinInt + 1: "-9223372036854775807",
	} {
		j := api.Json{Kind: api.JsonInt, Int: n}
		v, e := inputs(t, j, at("Int"), defs)
		if fits := len(digits) < 10 || digits == "2147483647" || digits == "-2147483648"; fits != (e == api.OK) || fits && !same(v, j) {
			t.Errorf("%d: %v, %d", n, v, e)
		}
		v, e = inputs(t, j, at("Float"), defs)
		if !same(v, api.Json{Kind: api.JsonFloat, Bits: floats.Of(n)}) || v.Bits != math.Float64bits(float64(n)) || e != api.OK {
			t.Errorf("%d: %v, %d", n, v, e)
		}
		v, e = inputs(t, j, at("ID"), defs)
		if !same(v, api.Json{Kind: api.JsonText, Text: digits}) || e != api.OK {
			t.Errorf("%d: %v, %d", n, v, e)
		}
	}
	const sign, infinity = 1 << 63, 0x7ff << 52
	for bits, finite := range map[uint64]bool{
		0: true, sign: true, 1: true, sign | 1: true, infinity - 1: true, sign | infinity - 1: true, 1 << 52: true, 1<<52 - 1: true, 0x3ff << 52: true,
		infinity: false, sign | infinity: false, infinity + 1: false, sign | infinity + 1: false, 1<<63 - 1: false, 1<<64 - 1: false, 0x7ff8 << 48: false,
	} {
		j := api.Json{Kind: api.JsonFloat, Bits: bits}
		v, e := inputs(t, j, at("Float"), defs)
		if finite != (e == api.OK) || finite && !same(v, j) {
			t.Errorf("%x: %v, %d", bits, v, e)
		}
		for _, name := range []string{"Int", "ID", "String", "Boolean", "E"} {
			if v, e := inputs(t, j, at(name), defs); e != api.ErrCoerceVar {
				t.Errorf("%x by %s: %v, %d", bits, name, v, e)
			}
		}
	}
}

// Texts, some of which are none.
func TestInputBytes(t *testing.T) {
	defs := append(types(t, wide), api.Def{Name: "X", Kind: api.DefEnum, Words: []string{"\xff", "", "A", "A"}})
	for s, valid := range map[string]bool{"": true, "a": true, "\x00": true, "é": true, "\U0010ffff": true, "\ufffd": true, "\xff": false, "a\xc3": false, "\xc0\x80": false, "\xed\xa0\x80": false, "\xf4\x90\x80\x80": false, "\xa9": false, "é\xff": false} {
		j := api.Json{Kind: api.JsonText, Text: s}
		for _, name := range []string{"String", "ID"} {
			v, e := inputs(t, j, api.Ref{Name: name}, defs)
			if valid != (e == api.OK) || valid && !same(v, j) {
				t.Errorf("%q by %s: %v, %d", s, name, v, e)
			}
		}
		// Of an enum its Words alone say what is one.
		v, e := inputs(t, j, api.Ref{Name: "X"}, defs)
		if is := s == "\xff" || s == ""; is != (e == api.OK) || is && !same(v, j) {
			t.Errorf("%q: %v, %d", s, v, e)
		}
	}
}

// full is a value of a kind that has all that others have, too.
func full(kind int) api.Json {
	return api.Json{Kind: kind, Int: 7, Bits: 7, Text: "A", List: []api.Json{{Kind: api.JsonInt, Int: 7}}, Keys: []string{"x"}}
}

// Every kind of value at every kind of definition, the first of its name; of "it" stays what its kind has.
func TestInputKinds(t *testing.T) {
	for kind := -2; kind <= api.DefKinds+2; kind++ {
		for _, name := range []string{"Int", "Float", "String", "Boolean", "ID", "int", "E", "", "Nope"} {
			d := api.Def{Name: name, Kind: kind, Words: []string{"A", ""}, Ins: []api.In{{Name: "x", Type: api.Ref{Name: name, Wraps: "["}}}}
			for k := -2; k <= api.JsonKinds+2; k++ {
				want := kindsInput(kind, name, k)
				check := func(at api.Ref, defs []api.Def, want api.Json, fits bool) {
					t.Helper()
					v, e := inputs(t, full(k), at, defs)
					if fits != (e == api.OK) || !fits && e != api.ErrCoerceVar || fits && !same(v, want) {
						t.Errorf("%d by %v of %v: %v, %d", k, at, defs, v, e)
					}
				}
				if kind == api.DefInput && k == api.JsonObject { // 7 is no object
					want = []api.Json{}
				}
				fits := len(want) > 0
				want = append(want, api.Json{})
				check(api.Ref{Name: name}, []api.Def{d}, want[0], fits)
				check(api.Ref{Name: name}, []api.Def{{Name: name + "x"}, d, {Name: name}, {Name: name, Kind: api.DefEnum, Words: []string{"A"}}, {Name: name, Kind: api.DefObject}}, want[0], fits)
				check(api.Ref{Name: name + "y"}, []api.Def{d}, api.Json{}, k == api.JsonNull)
				check(api.Ref{Name: name}, nil, api.Json{}, k == api.JsonNull)
				check(api.Ref{Name: name, Wraps: "!"}, []api.Def{d}, want[0], fits && k != api.JsonNull)
			}
		}
	}
}

// kindsInput is what a full value of a kind is by a definition, if it is anything.
func kindsInput(kind int, name string, k int) []api.Json {
	text := api.Json{Kind: api.JsonText, Text: "A"}
	switch {
	case k == api.JsonNull:
		return []api.Json{{}}
	case kind == api.DefEnum && k == api.JsonText:
		return []api.Json{text}
	case kind != api.DefScalar:
		return nil
	case name == "Int" && k == api.JsonInt:
		return []api.Json{{Kind: api.JsonInt, Int: 7}}
	case name == "Float" && k == api.JsonInt:
		return []api.Json{{Kind: api.JsonFloat, Bits: math.Float64bits(7)}}
	case name == "Float" && k == api.JsonFloat:
		return []api.Json{{Kind: api.JsonFloat, Bits: 7}}
	case name == "ID" && k == api.JsonInt:
		return []api.Json{{Kind: api.JsonText, Text: "7"}}
	case (name == "String" || name == "ID") && k == api.JsonText:
		return []api.Json{text}
	case name == "Boolean" && (k == api.JsonFalse || k == api.JsonTrue):
		return []api.Json{{Kind: k}}
	}
	return nil
}

// Lists and objects, too, lose what their kinds do not have; a list is one by its Kind alone.
func TestInputFull(t *testing.T) {
	defs := append(types(t, wide), api.Def{Name: "I", Kind: api.DefInput, Ins: []api.In{{Name: "x", Type: api.Ref{Name: "Int"}}}})
	seven := api.Json{Kind: api.JsonInt, Int: 7}
	for k := -1; k <= api.JsonKinds; k++ {
		v, e := inputs(t, full(k), api.Ref{Name: "Int", Wraps: "["}, defs)
		switch k {
		case api.JsonNull:
			if e != api.OK || !same(v, api.Json{}) {
				t.Errorf("%d: %v, %d", k, v, e)
			}
		case api.JsonInt, api.JsonList:
			if e != api.OK || !same(v, api.Json{Kind: api.JsonList, List: []api.Json{seven}}) {
				t.Errorf("%d: %v, %d", k, v, e)
			}
		default:
			if e != api.ErrCoerceVar {
				t.Errorf("%d: %v, %d", k, v, e)
			}
		}
		v, e = inputs(t, full(k), api.Ref{Name: "I", Wraps: "!"}, defs)
		if k == api.JsonObject != (e == api.OK) || e == api.OK && !same(v, api.Json{Kind: api.JsonObject, Keys: []string{"x"}, List: []api.Json{seven}}) {
			t.Errorf("%d: %v, %d", k, v, e)
		}
	}
}

// The steps' order, and ends that are none.
func TestInputSteps(t *testing.T) {
	defs := types(t, wide)
	one, list := api.Json{Kind: api.JsonInt, Int: 1}, func(l ...api.Json) *api.Json { return &api.Json{Kind: api.JsonList, List: l} }
	type row = [3]*api.Json // of null, of 1, of a list of null
	null := &api.Json{}
	for wraps, want := range map[string]row{
		"": {null, &one, nil}, "!": {nil, &one, nil}, "!!": {nil, &one, nil}, "!!!": {nil, &one, nil}, "[": {null, list(one), list(*null)}, "![": {null, list(one), nil}, "[!": {nil, list(one), list(*null)}, "![!": {nil, list(one), nil},
		"[[": {null, list(*list(one)), list(*null)}, "[![": {null, list(*list(one)), nil}, "![[": {null, list(*list(one)), list(*null)}, "!![": {null, list(one), nil}, "[!!": {nil, list(one), list(*null)},
		"?": {null, &one, nil}, "!?": {null, &one, nil}, "[?": {null, &one, nil}, "[!?": {null, &one, nil}, "?!": {nil, &one, nil}, "?[": {null, list(one), list(*null)}, "!?[": {null, list(one), list(*null)}, "]": {null, &one, nil}, "\x00": {null, &one, nil}, "\xff[": {null, list(one), list(*null)},
	} {
		for i, j := range []api.Json{{}, one, *list(api.Json{})} {
			v, e := inputs(t, j, api.Ref{Name: "Int", Wraps: wraps}, defs)
			if is := e == api.OK; is != (want[i] != nil) || is && !same(v, *want[i]) {
				t.Errorf("%v by %q: %v, %d", j, wraps, v, e)
			}
		}
	}
}

// in is one of a name and a type.
func in(t *testing.T, name, at string) api.In { return api.In{Name: name, Type: ref(t, at)} }

// Objects: with keys that no In has, with two of one name, with Keys and List of unlike lengths; Ins with one name.
func TestInputObjects(t *testing.T) {
	one, yes, null := json(t, "1"), json(t, "true"), api.Json{}
	a, b, must := in(t, "a", "Int"), in(t, "b", "Boolean"), in(t, "b", "Boolean!")
	check := func(keys string, l []api.Json, want string, ins ...api.In) {
		t.Helper()
		defs := append(types(t, wide), api.Def{Name: "I", Kind: api.DefInput, Ins: ins})
		names := strings.Split(keys, ",")
		if keys == "" {
			names = nil
		}
		j, e := inputs(t, api.Json{Kind: api.JsonObject, Keys: names, List: l}, api.Ref{Name: "I"}, defs)
		becomes(t, keys, j, e, want, api.ErrCoerceVar)
	}
	check("", nil, "{}")
	check("", nil, "{}", a, b)
	check("", nil, "", a, must)
	check("a", []api.Json{one}, "{\"a\":1}", a, b)
	check("a", []api.Json{one}, "{\"a\":1}", b, a)
	check("a", []api.Json{one}, "", a, must)
	check("b,a", []api.Json{yes, one}, "{\"a\":1,\"b\":true}", a, must)
	check("b,a", []api.Json{yes, one}, "{\"b\":true,\"a\":1}", b, a)
	check("b,a", []api.Json{one, yes}, "", a, b)
	check("b,a", []api.Json{null, one}, "", a, must)
	check("b,a", []api.Json{null, one}, "{\"a\":1,\"b\":null}", a, b)
	check("b", []api.Json{yes}, "{\"b\":true}", a, must)
	// Keys that no In has.
	check("x", []api.Json{null}, "", a, b)
	check("x", nil, "", a, b)
	check("a,x", []api.Json{one, one}, "", a, b)
	check("x,a", []api.Json{one, one}, "", a, b)
	check("a,A", []api.Json{one, one}, "", a, b)
	check("a,", []api.Json{one, one}, "", a, b)
	check("a,", []api.Json{one, yes}, "{\"\":true,\"a\":1}", api.In{Type: b.Type}, a)
	check("a", []api.Json{one}, "")
	// Two keys of one name: the first counts, the other is not looked at.
	check("a,a", []api.Json{one, yes}, "{\"a\":1}", a, b)
	check("a,b,a", []api.Json{one, yes, null}, "{\"a\":1,\"b\":true}", a, b)
	check("a,a", []api.Json{yes, one}, "", a, b)
	check("b,b", []api.Json{null, yes}, "", a, must)
	check("b,b", []api.Json{yes, null}, "{\"b\":true}", a, must)
	check("x,x", []api.Json{null, null}, "", a, b)
	// As far as List goes.
	check("a,b", []api.Json{one}, "{\"a\":1}", a, b)
	check("a,b", []api.Json{one}, "", a, must)
	check("a,b", nil, "{}", a, b)
	check("b,a", nil, "", a, must)
	check("a,a", []api.Json{one}, "{\"a\":1}", a, b)
	check("a,b,x", []api.Json{one}, "", a, b)
	check("a", []api.Json{one, yes}, "{\"a\":1}", a, b)
	check("", []api.Json{one, yes}, "{}", a, b)
	check("", []api.Json{one, yes}, "", must)
	// Two Ins of one name: the first counts.
	check("a", []api.Json{one}, "{\"a\":1}", a, in(t, "a", "Boolean!"))
	check("a", []api.Json{yes}, "", a, in(t, "a", "Boolean!"))
	check("a", []api.Json{yes}, "{\"a\":true}", in(t, "a", "Boolean!"), a, a)
	check("", nil, "{}", a, in(t, "a", "Boolean!"))
	check("", nil, "", in(t, "a", "Boolean!"), a)
	check("b,a", []api.Json{yes, one}, "{\"a\":1,\"b\":true}", a, b, a, must, a)
	// Only an object is one.
	for kind := api.JsonFalse; kind <= api.JsonKinds; kind++ {
		if kind != api.JsonObject {
			defs := []api.Def{{Name: "I", Kind: api.DefInput, Ins: []api.In{a}}}
			if j, e := inputs(t, api.Json{Kind: kind, Keys: []string{"a"}, List: []api.Json{null}}, api.Ref{Name: "I"}, defs); e != api.ErrCoerceVar {
				t.Errorf("%d: %v, %d", kind, j, e)
			}
		}
	}
}

// An input within itself, in a list, and behind others; types that no definition has within.
func TestInputNested(t *testing.T) {
	defs := append(types(t, wide), api.Def{Name: "I", Kind: api.DefInput, Ins: []api.In{in(t, "n", "Int!"), in(t, "i", "I"), in(t, "l", "[I!]"), in(t, "x", "Nope"), in(t, "q", "Query"), in(t, "e", "E")}})
	check(t, defs, "I", "{\"n\":1} {\"i\":{\"n\":2},\"n\":1}>{\"n\":1,\"i\":{\"n\":2}} {\"l\":{\"l\":[],\"n\":2},\"n\":1}>{\"n\":1,\"l\":[{\"n\":2,\"l\":[]}]} {\"n\":1,\"x\":null,\"q\":null} {\"n\":1,\"l\":[{\"n\":1,\"i\":null},{\"n\":2,\"e\":\"A\"}]} {\"n\":1,\"i\":{\"n\":1,\"i\":{\"n\":1,\"i\":{\"n\":1}}}}",
		"{} {\"n\":null} {\"n\":1,\"i\":{}} {\"n\":1,\"l\":[{\"n\":1},{}]} {\"n\":1,\"l\":[null]} {\"n\":1,\"x\":1} {\"n\":1,\"q\":{}} {\"n\":1,\"i\":{\"n\":1,\"i\":{\"n\":1,\"i\":{\"n\":true}}}} {\"n\":1,\"l\":[{\"n\":1,\"e\":\"C\"}]} {\"n\":1,\"i\":[{\"n\":1}]}")
	if v, e := coerce.Input(api.Json{Kind: api.JsonObject}, api.Ref{Name: "I"}, []api.Def{{Name: "I", Kind: api.DefInput}}); e != api.OK || v.Kind != api.JsonObject {
		t.Errorf("%v, %d", v, e)
	}
}
