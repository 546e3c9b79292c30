package print_test

import (
	"strings"
	"testing"

	"rhizome/api"
	"rhizome/lex"
	"rhizome/print"
	"rhizome/samples"
	"rhizome/syntax"
)

// isValue holds Value of v against the model, against Print of a tree with v in it, and against what Parse tells.
func isValue(t *testing.T, v api.Value) (string, api.Errno) {
	t.Helper()
	want, e, why := modelValue(v)
	kept := copied(v)
	s, got := print.Value(v)
	if s != want || got != e {
		t.Errorf("Value of %.500v: %.300q, %d, not %.300q, %d: %v", v, s, got, want, e, why)
	}
	if !same(v, kept) {
		t.Errorf("%.500v: was changed to %.500v", kept, v)
	}
	if text, e := isAsModel(t, argued(v)); e != got || e == api.OK && text != "{ a ( b : "+s+" ) }" {
		t.Errorf("%.500v: as an argument %.300q, %d, by itself %.300q, %d", v, text, e, s, got)
	}
	return s, got
}

// isWritten holds Value of v against a text, by itself and within others.
func isWritten(t *testing.T, v api.Value, want string) {
	t.Helper()
	for s, x := range map[string]api.Value{
		"V": v, "[ V ]": list(v), "[ null V V ]": list(api.Value{}, v, v), "{ x : V }": object("x", v), "{ x : V x : [ V ] }": object("x x", v, list(v)), "[ { y : { z : V } } ]": list(object("y", object("z", v))),
	} {
		if got, e := isValue(t, x); got != strings.ReplaceAll(s, "V", want) || e != api.OK {
			t.Errorf("%.500v: %.300q, %d, not %.300q within %q", x, got, e, want, s)
		}
	}
	isAsModel(t, argued(v, v))
	isAsModel(t, asked(api.Var{Name: "v", Type: api.Ref{Name: "T"}, Has: true, Default: v}))
}

// isNone holds v against the error, by itself, within others, and wherever a value is.
func isNone(t *testing.T, v api.Value) {
	t.Helper()
	for _, x := range []api.Value{v, list(v), list(one, v), list(v, one), object("x", v), object("x y", v, one), object("x y", one, v), list(object("x", list(list(v))))} {
		if s, e := isValue(t, x); s != "" || e != api.ErrPrintForm {
			t.Errorf("%.500v: %.300q, %d", x, s, e)
		}
		args := []api.Arg{{Name: "x", Value: x}}
		d := []api.Directive{{Name: "d", Args: args}}
		isWrong(t, argued(one, x))
		isWrong(t, query(api.Sel{Name: "a", Directives: d}))
		isWrong(t, query(api.Sel{Kind: api.SelSpread, Name: "f", Directives: d}))
		isWrong(t, asked(api.Var{Name: "v", Type: api.Ref{Name: "T"}, Has: true, Default: x}))
		isWrong(t, asked(api.Var{Name: "v", Type: api.Ref{Name: "T"}, Directives: d}))
		isWrong(t, api.Doc{Ops: []api.Op{{Directives: d, Sels: someSel}}})
		isWrong(t, api.Doc{Frags: []api.Frag{{Name: "f", On: "T", Directives: d, Sels: someSel}}})
	}
}

// P7.1: values

func TestValues(t *testing.T) {
	isWritten(t, api.Value{}, "null")
	isWritten(t, api.Value{List: []api.Value{}, Names: []string{}}, "null")
	isWritten(t, api.Value{Kind: api.ValFalse}, "false")
	isWritten(t, api.Value{Kind: api.ValTrue}, "true")
	isWritten(t, list(), "[ ]")
	isWritten(t, api.Value{Kind: api.ValList, List: []api.Value{}, Names: []string{}}, "[ ]")
	isWritten(t, object(""), "{ }")
	isWritten(t, api.Value{Kind: api.ValObject, List: []api.Value{}, Names: []string{}}, "{ }")
	isWritten(t, list(one, list(), list(list()), object("")), "[ 1 [ ] [ [ ] ] { } ]")
	isWritten(t, object("b a on null b", one, word(api.ValEnum, "on"), api.Value{}, list(one), object("c", one)), "{ b : 1 a : on on : null null : [ 1 ] b : { c : 1 } }")
	for _, s := range []string{"a", "on", "true", "false", "null", "_1", "query"} {
		isWritten(t, word(api.ValVar, s), "$ "+s)
	}
	for _, s := range []string{"a", "on", "True", "NULL", "nulls", "_", "query", "e5"} {
		isWritten(t, word(api.ValEnum, s), s)
	}
	for _, s := range []string{"0", "-0", "1", "-12", "9007199254740993", strings.Repeat("9", 500)} {
		isWritten(t, word(api.ValInt, s), s)
		isNone(t, word(api.ValFloat, s))
	}
	for _, s := range []string{"0.0", "-0.50", "1e5", "1E+05", "-1.5e-3", "1e999", "0." + strings.Repeat("0", 500)} {
		isWritten(t, word(api.ValFloat, s), s)
		isNone(t, word(api.ValInt, s))
	}
}

func TestValuesWrong(t *testing.T) {
	for _, kind := range []int{-1, 10, 11, -1 << 63, 1<<63 - 1, 1 << 32} {
		isNone(t, api.Value{Kind: kind})
		isNone(t, word(kind, "a"))
	}
	for _, kind := range []int{api.ValNull, api.ValFalse, api.ValTrue, api.ValList, api.ValObject} {
		for _, s := range []string{"x", "null", "false", "true", "1", " ", "\x00"} {
			isNone(t, word(kind, s))
		}
	}
	for kind, s := range map[int]string{api.ValNull: "", api.ValFalse: "", api.ValTrue: "", api.ValVar: "a", api.ValInt: "1", api.ValFloat: "1.5", api.ValText: "a", api.ValEnum: "a"} {
		isNone(t, api.Value{Kind: kind, Text: s, List: []api.Value{one}})
		isNone(t, api.Value{Kind: kind, Text: s, Names: []string{"a"}})
		isNone(t, api.Value{Kind: kind, Text: s, List: []api.Value{one}, Names: []string{"a"}})
	}
	for _, kind := range []int{api.ValVar, api.ValInt, api.ValFloat, api.ValEnum} {
		for _, s := range []string{"", " ", "a b", "$a", "1 ", " 1", "1,", "01", "1.", "1e", "-", "+1", "1a", "a-", "\"a\"", "[]", "{}", "é", "\x00", "\xff", "#", "a#", "1#"} {
			isNone(t, word(kind, s))
		}
	}
	for _, s := range []string{"true", "false", "null"} {
		isNone(t, word(api.ValEnum, s))
	}
	isNone(t, word(api.ValVar, "1"))
	isNone(t, word(api.ValEnum, "1"))
	isNone(t, word(api.ValInt, "a"))
	isNone(t, word(api.ValFloat, "a"))
}

// Lists have no names, objects as many as values.
func TestValuesNames(t *testing.T) {
	isNone(t, api.Value{Kind: api.ValList, Names: []string{"a"}})
	isNone(t, api.Value{Kind: api.ValList, List: []api.Value{one}, Names: []string{"a"}})
	isNone(t, object("a"))
	isNone(t, object("", one))
	isNone(t, object("a b", one))
	isNone(t, object("a", one, one))
	isNone(t, object("a b c", one, one))
	isNone(t, object("a b", one, one, one))
	for _, name := range []string{"", " ", "a b", "1", "\"a\"", "$a", "é", "a:", "a\n"} {
		isNone(t, api.Value{Kind: api.ValObject, Names: []string{name}, List: []api.Value{one}})
		isNone(t, api.Value{Kind: api.ValObject, Names: []string{"a", name}, List: []api.Value{one, one}})
		isNone(t, api.Value{Kind: api.ValObject, Names: []string{name, "a"}, List: []api.Value{one, one}})
	}
}

func TestValuesAll(t *testing.T) {
	texts := []string{"", "a", "on", "true", "null", "1", "-0", "1.5", "1e5", "01", "a b", " ", "é", "\xff", "\xed\xa0\x80", "\U00010000", "\"", "\\", "\n"}
	lists := [][]api.Value{nil, {}, {one}, {one, list(free)}, {{Kind: 10}}, {one, word(api.ValEnum, "null")}, {word(api.ValNull, "x")}}
	names := [][]string{nil, {}, {"a"}, {"on", "true"}, {""}, {"a b"}, {"a", ""}}
	for kind := -2; kind < 13; kind++ {
		for _, text := range texts {
			for _, l := range lists {
				for _, n := range names {
					v := api.Value{Kind: kind, Text: text, List: l, Names: n}
					isValue(t, v)
					isValue(t, list(one, v))
					isValue(t, object("x y", v, one))
				}
			}
		}
	}
}

func TestTexts(t *testing.T) {
	for s, want := range map[string]string{
		"": `""`, "a": `"a"`, "a b": `"a b"`, "null": `"null"`, "1": `"1"`, "\"": `"\""`, "\"\"": `"\"\""`, "\"\"\"": `"\"\"\""`, "\\": `"\\"`, "\\u0041": `"\\u0041"`, "/": `"/"`, "\n": `"\u000a"`, "\r\n\t": `"\u000d\u000a\u0009"`, "\x00\x1f\x7f": `"\u0000\u001f\u007f"`,
		"é€": `"é€"`, "\u0080\u009f": "\"\u0080\u009f\"", "\ufeff": "\"\ufeff\"", "\uffff": "\"\uffff\"", "\ud7ff\ue000": "\"\ud7ff\ue000\"", "\xed\xa0\x80": `"\ud800"`, "\xed\xbf\xbf": `"\udfff"`, "\xed\xa0\xbd\xed\xb8\x80": `"\ud83d\ude00"`, ",": `","`, "#": `"#"`, "{ a }": `"{ a }"`, "  ": `"  "`,
	} {
		isWritten(t, word(api.ValText, s), want)
	}
	for _, s := range []string{"\xff", "\x80", "\xc0\x80", "\xc3", "a\xc3", "\xc3a", "\xe2\x82", "\xed\xa0", "\xed", "\xed\xa0a", "\xed\xa0\xc0", "\xe2\xed\xa0\x80", "\U00010000", "😀", "a😀", "\U0010ffff", "\xf4\x90\x80\x80", "\xf0\x8f\xbf\xbf", "\xed\xa0\x80\xff", "\xe0\x80\x80"} {
		isNone(t, word(api.ValText, s))
		isNone(t, word(api.ValText, "a"+s+"a"))
	}
}

// Each character and each half, and all short rows of the bytes that matter; a text may be, just if lex.Tokens tells it as the only token of its lex.Quote.
func TestTextsAll(t *testing.T) {
	hold := func(s string) {
		t.Helper()
		want, ok := modelQuote(s)
		got, e := print.Value(word(api.ValText, s))
		if ok != (e == api.OK) || ok && got != want {
			t.Errorf("%q: %q, %d, not %q, %v", s, got, e, want, ok)
		}
		if l, _, _ := lex.Tokens(lex.Quote(s)); ok != (len(l) == 1 && l[0].Kind == api.TokText && l[0].Text == s) {
			t.Errorf("%q: %v", s, l)
		}
		d, _, _ := syntax.Parse("{ a ( b : " + got + " ) }")
		if ok && !same(d, argued(word(api.ValText, s))) {
			t.Errorf("%q: read as %v", s, d)
		}
	}
	for n := range 65536 + 64 {
		if n >= 55296 && n <= 57343 {
			hold(string([]byte{byte(224 + n/4096), byte(128 + n/64%64), byte(128 + n%64)}))
		} else {
			hold(string(rune(n)))
		}
	}
	for n := range 256 {
		hold(string([]byte{byte(n)}))
		hold(string([]byte{'a', byte(n), 'a'}))
		hold(string([]byte{0xed, byte(n), 0x80}))
		hold(string([]byte{0xed, 0xa0, byte(n)}))
	}
	for s := range samples.Rows(4, "a", "\"", "\\", "u", "\n", "\x7f", "\xed", "\xa0", "\x80", "\xbf", "\xc3", "\xff") {
		hold(s)
	}
}

// What is constant: each value but a variable, at each depth; the default of a variable and its directives' arguments must be.
func TestConstant(t *testing.T) {
	ref := api.Ref{Name: "T"}
	around := []func(api.Value) api.Value{
		func(v api.Value) api.Value { return v },
		func(v api.Value) api.Value { return list(v) },
		func(v api.Value) api.Value { return list(one, list(), v, one) },
		func(v api.Value) api.Value { return object("x", v) },
		func(v api.Value) api.Value { return object("x y z", one, v, list(one)) },
		func(v api.Value) api.Value { return list(object("x", list(object("y", v)))) },
		func(v api.Value) api.Value { return nested(31, v) },
		func(v api.Value) api.Value { return nested(32, v) },
	}
	for _, wrap := range around {
		for _, x := range []struct {
			v  api.Value
			ok bool
		}{{free, false}, {one, true}, {word(api.ValText, "$v"), true}, {word(api.ValEnum, "v"), true}, {api.Value{}, true}} {
			v := wrap(x.v)
			args := []api.Arg{{Name: "x", Value: one}, {Name: "x", Value: v}}
			d := []api.Directive{{Name: "d"}, {Name: "d", Args: args}}
			for _, doc := range []api.Doc{
				asked(api.Var{Name: "v", Type: ref, Has: true, Default: v}),
				asked(api.Var{Name: "v", Type: ref, Directives: d}),
				asked(api.Var{Name: "v", Type: ref}, api.Var{Name: "v", Type: ref, Has: true, Default: v, Directives: d}),
				{Ops: []api.Op{{Sels: someSel}, {Kind: api.OpMutation, Vars: []api.Var{{Name: "v", Type: ref, Has: true, Directives: d}}, Sels: someSel}}},
			} {
				if _, e := isAsModel(t, doc); (e == api.OK) != x.ok {
					t.Errorf("%.500v: %d", doc, e)
				}
			}
			// Anywhere else variables may be, also behind the definitions.
			for _, doc := range []api.Doc{
				argued(v),
				query(api.Sel{Name: "a", Args: args, Directives: d, Sels: []api.Sel{{Kind: api.SelSpread, Name: "f", Directives: d}, {Kind: api.SelInline, Directives: d, Sels: someSel}}}),
				{Ops: []api.Op{{Vars: []api.Var{{Name: "v", Type: ref, Has: true, Default: one}}, Directives: d, Sels: []api.Sel{{Name: "a", Args: args}}}}},
				{Frags: []api.Frag{{Name: "f", On: "T", Directives: d, Sels: someSel}}},
			} {
				if _, e := isAsModel(t, doc); e != api.OK {
					t.Errorf("%.500v: %d", doc, e)
				}
			}
			if _, e := isValue(t, v); e != api.OK {
				t.Errorf("%.500v: %d", v, e)
			}
		}
	}
}

// nested is v within n lists and objects, by turns.
func nested(n int, v api.Value) api.Value {
	for i := range n {
		if i%2 == 0 {
			v = list(v)
		} else {
			v = object("x", v)
		}
	}
	return v
}

// P7.1: too deep, too long

func TestDeepValues(t *testing.T) {
	within := func(n int, v api.Value, wrap func(api.Value) api.Value) api.Value {
		for range n {
			v = wrap(v)
		}
		return v
	}
	for _, wrap := range []func(api.Value) api.Value{
		func(v api.Value) api.Value { return list(v) },
		func(v api.Value) api.Value { return list(one, list(list()), v) },
		func(v api.Value) api.Value { return object("x", v) },
		func(v api.Value) api.Value { return object("x y", v, list(list())) },
		func(v api.Value) api.Value { return nested(2, v) },
	} {
		for n := range 40 {
			for _, v := range []api.Value{within(n, one, wrap), within(n, list(), wrap), within(n, object(""), wrap)} {
				isValue(t, v)
				isAsModel(t, asked(api.Var{Name: "v", Type: api.Ref{Name: "T"}, Has: true, Default: v}))
				isAsModel(t, asked(api.Var{Name: "v", Type: api.Ref{Name: "T"}, Directives: []api.Directive{{Name: "d", Args: []api.Arg{{Name: "x", Value: v}}}}}))
				isAsModel(t, query(api.Sel{Name: "a", Directives: []api.Directive{{Name: "d", Args: []api.Arg{{Name: "x"}, {Name: "x", Value: v}}}}}))
				isAsModel(t, api.Doc{Frags: []api.Frag{{Name: "f", On: "T", Directives: []api.Directive{{Name: "d", Args: []api.Arg{{Name: "x", Value: v}}}}, Sels: someSel}}})
			}
		}
	}
	tells := func(v api.Value, want api.Errno) {
		t.Helper()
		if _, e := isValue(t, v); e != want {
			t.Error(e)
		}
	}
	tells(nested(32, one), api.OK)
	tells(nested(33, one), api.ErrPrintForm)
	tells(nested(31, list()), api.OK)
	tells(nested(32, list()), api.ErrPrintForm)
	tells(nested(32, object("")), api.ErrPrintForm)
	tells(list(nested(31, one), nested(31, one), nested(31, one)), api.OK)
	tells(list(one, nested(31, one), nested(32, one)), api.ErrPrintForm)
}

func TestDeepSets(t *testing.T) {
	within := func(n int, sel api.Sel) api.Sel {
		x := sel
		x.Sels = nil
		if sel.Kind == api.SelInline {
			x = api.Sel{Name: "b"}
		}
		for range n {
			next := sel
			next.Sels = []api.Sel{{Name: "z", Sels: someSel}, x, {Name: "z"}}
			x = next
		}
		return x
	}
	deep := nested(32, one)
	args := []api.Arg{{Name: "x", Value: deep}}
	for _, sel := range []api.Sel{{Name: "a"}, {Alias: "c", Name: "a", Directives: []api.Directive{{Name: "d"}}}, {Kind: api.SelInline}, {Kind: api.SelInline, On: "T"}} {
		for n := range 40 {
			isAsModel(t, query(within(n, sel)))
			isAsModel(t, api.Doc{Frags: []api.Frag{{Name: "f", On: "T", Sels: []api.Sel{{Name: "b"}, within(n, sel)}}}})
			isAsModel(t, api.Doc{Ops: []api.Op{{Kind: api.OpMutation, Name: "m", Sels: []api.Sel{within(n, sel)}}, {Sels: someSel}}})
		}
		for _, n := range []int{30, 31} {
			// The innermost of the others that stand beside are as deep.
			if _, e := isAsModel(t, query(within(n, sel))); (e == api.OK) != (n == 30) {
				t.Errorf("%d: %d", n, e)
			}
		}
	}
	chain := func(n int, last api.Sel) api.Doc {
		for range n {
			last = api.Sel{Name: "a", Sels: []api.Sel{last}}
		}
		return query(last)
	}
	is(t, chain(31, api.Sel{Name: "a"}), strings.Repeat("{ a ", 32)+strings.TrimSpace(strings.Repeat("} ", 32)))
	isWrong(t, chain(32, api.Sel{Name: "a"}))
	isWrong(t, chain(31, api.Sel{Kind: api.SelInline, Sels: someSel}))
	// Sets and values are counted by themselves.
	if _, e := isAsModel(t, chain(31, api.Sel{Name: "a", Args: args, Directives: []api.Directive{{Name: "d", Args: args}}})); e != api.OK {
		t.Error(e)
	}
}

func TestDeepTypes(t *testing.T) {
	typed := func(wraps string) api.Doc { return asked(api.Var{Name: "v", Type: api.Ref{Name: "T", Wraps: wraps}}) }
	for n := range 40 {
		for _, wraps := range []string{strings.Repeat("[", n), strings.Repeat("[!", n), strings.Repeat("![", n), "!" + strings.Repeat("[!", n), strings.Repeat("[[!", n)} {
			isAsModel(t, typed(wraps))
		}
	}
	is(t, typed(strings.Repeat("[", 32)), "query ( $ v : "+strings.Repeat("[ ", 32)+"T "+strings.Repeat("] ", 32)+") { a }")
	isWrong(t, typed(strings.Repeat("[", 33)))
	isWrong(t, typed(strings.Repeat("![", 33)))
	v := api.Var{Name: "v", Type: api.Ref{Name: "T", Wraps: strings.Repeat("[", 32)}, Has: true, Default: nested(32, one), Directives: []api.Directive{{Name: "d", Args: []api.Arg{{Name: "x", Value: nested(32, one)}}}}}
	if _, e := isAsModel(t, asked(v, v)); e != api.OK {
		t.Error(e)
	}
}

// repeated is x as often as that.
func repeated[T any](n int, x T) []T {
	var l []T
	for range n {
		l = append(l, x)
	}
	return l
}

// A text has at most 2048 tokens.
func TestManyTokens(t *testing.T) {
	is(t, query(repeated(2046, api.Sel{Name: "a"})...), "{ "+strings.Repeat("a ", 2046)+"}")
	isWrong(t, query(repeated(2047, api.Sel{Name: "a"})...))
	isWrong(t, query(repeated(2048, api.Sel{Name: "a"})...))
	if s, e := isValue(t, list(repeated(2039, one)...)); s != "[ "+strings.Repeat("1 ", 2039)+"]" || e != api.OK {
		t.Errorf("%.300q, %d", s, e)
	}
	if s, e := isValue(t, list(repeated(2040, one)...)); s != "" || e != api.ErrPrintForm {
		t.Errorf("%.300q, %d", s, e)
	}
	for n := 2030; n < 2060; n++ {
		isValue(t, list(repeated(n, one)...))
		isValue(t, list(repeated(n/2, free)...))
		isValue(t, api.Value{Kind: api.ValObject, Names: repeated(n/3, "x"), List: repeated(n/3, one)})
		isAsModel(t, query(repeated(n, api.Sel{Name: "a"})...))
		isAsModel(t, query(repeated(n/3, api.Sel{Alias: "b", Name: "a"})...))
		isAsModel(t, query(repeated(n/2, api.Sel{Kind: api.SelSpread, Name: "f"})...))
		isAsModel(t, query(api.Sel{Name: "a", Directives: repeated(n/2, api.Directive{Name: "d"})}))
		isAsModel(t, query(api.Sel{Name: "a", Args: repeated(n/3, api.Arg{Name: "x"})}))
		isAsModel(t, asked(repeated(n/4, api.Var{Name: "v", Type: api.Ref{Name: "T"}})...))
		isAsModel(t, asked(api.Var{Name: "v", Type: api.Ref{Name: "T"}, Has: true, Default: list(repeated(n-10, one)...)}))
		isAsModel(t, api.Doc{Ops: repeated(n/3, api.Op{Sels: someSel})})
		isAsModel(t, api.Doc{Ops: repeated(n/4, api.Op{Kind: api.OpMutation, Sels: someSel})})
		isAsModel(t, api.Doc{Frags: repeated(n/7, api.Frag{Name: "f", On: "T", Sels: someSel})})
		isAsModel(t, api.Doc{Ops: repeated(100, api.Op{Sels: someSel}), Frags: repeated((n-300)/7, api.Frag{Name: "f", On: "T", Sels: someSel})})
	}
}

// A text has at most 16384 bytes: by one byte too many it is none.
func TestLong(t *testing.T) {
	is(t, query(api.Sel{Name: strings.Repeat("a", 16380)}), "{ "+strings.Repeat("a", 16380)+" }")
	isWrong(t, query(api.Sel{Name: strings.Repeat("a", 16381)}))
	for _, x := range []struct {
		kind int
		unit string
		most int // how many of the unit a value by itself has
	}{{api.ValEnum, "a", 16370}, {api.ValVar, "a", 16368}, {api.ValInt, "9", 16370}, {api.ValText, "a", 16368}, {api.ValText, "é", 8184}, {api.ValText, "\"", 8184}, {api.ValText, "\n", 2728}, {api.ValText, "\xed\xa0\x80", 2728}} {
		for _, n := range []int{1, x.most - 1, x.most, x.most + 1, x.most + 2, x.most + 13, x.most + 14, x.most + 15, x.most + 16, x.most + 17, 2 * x.most} {
			_, e := isValue(t, word(x.kind, strings.Repeat(x.unit, n)))
			if (e == api.OK) != (n <= x.most) {
				t.Errorf("kind %d, %d of %q: %d", x.kind, n, x.unit, e)
			}
		}
	}
	name := strings.Repeat("n", 15)
	for n := range 40 {
		last := strings.Repeat("m", 1+n)
		isAsModel(t, query(append(repeated(1022, api.Sel{Name: name}), api.Sel{Name: last})...))
		isAsModel(t, query(append(repeated(1022, api.Sel{Name: name}), api.Sel{Kind: api.SelSpread, Name: last})...))
		isAsModel(t, query(append(repeated(1021, api.Sel{Name: name}), api.Sel{Alias: last, Name: "a"})...))
		isAsModel(t, query(append(repeated(1021, api.Sel{Name: name}), api.Sel{Name: "a", Directives: []api.Directive{{Name: last}}})...))
		isValue(t, list(append(repeated(1022, word(api.ValEnum, name)), word(api.ValEnum, last))...))
		isValue(t, list(append(repeated(1021, word(api.ValEnum, name)), word(api.ValEnum, last))...))
		isAsModel(t, api.Doc{Ops: []api.Op{{Name: last, Sels: repeated(1021, api.Sel{Name: name})}}})
		isAsModel(t, api.Doc{Ops: []api.Op{{Sels: repeated(1021, api.Sel{Name: name})}}, Frags: []api.Frag{{Name: "f", On: last, Sels: someSel}}})
	}
}
