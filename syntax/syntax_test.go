package syntax_test

import (
	"cmp"
	"reflect"
	"regexp"
	"slices"
	"strings"
	"testing"

	"rhizome/api"
	"rhizome/lex"
	"rhizome/samples"
	"rhizome/syntax"
)

// isAsModel holds Parse of s against the model.
func isAsModel(t *testing.T, s string) (api.Doc, int, api.Errno) {
	t.Helper()
	d, at, e := syntax.Parse(s)
	place, want := modelCheck(s)
	if at != place || e != want {
		t.Errorf("%.300q: %d, %d, not %d, %d", s, at, e, place, want)
	}
	if e != api.OK && !reflect.DeepEqual(d, api.Doc{}) {
		t.Errorf("%.300q: %v beside an error", s, d)
	}
	if l, _, _ := lex.Tokens(s); e == api.OK {
		says(t, s, d, l)
	}
	return d, at, e
}

// is holds Parse of s against a tree.
func is(t *testing.T, s string, want api.Doc) {
	t.Helper()
	if d, at, e := isAsModel(t, s); !reflect.DeepEqual(d, want) || at != 0 || e != api.OK {
		t.Errorf("%.300q: %+v, %d, %d, not %+v", s, d, at, e, want)
	}
}

// isWrong holds Parse of s against an error and its place.
func isWrong(t *testing.T, s string, place int, want api.Errno) {
	t.Helper()
	if _, at, e := isAsModel(t, s); at != place || e != want {
		t.Errorf("%.300q: %d, %d, not %d, %d", s, at, e, place, want)
	}
}

// isWrongAt is isWrong of a document in which what can't follow has a byte 0 ahead of it.
func isWrongAt(t *testing.T, marked string, want api.Errno) {
	t.Helper()
	isWrong(t, strings.ReplaceAll(marked, "\x00", ""), strings.Index(marked, "\x00"), want)
}

// query is a document of one query without a name.
func query(l ...api.Sel) api.Doc { return api.Doc{Ops: []api.Op{{Sels: l}}} }

// asked is a document of one query of the field a with these variables.
func asked(l ...api.Var) api.Doc {
	return api.Doc{Ops: []api.Op{{Vars: l, Sels: []api.Sel{{Name: "a"}}}}}
}

func word(kind int, text string) api.Value { return api.Value{Kind: kind, Text: text} }

func list(l ...api.Value) api.Value { return api.Value{Kind: api.ValList, List: l} }

// P6.1

func TestParseExamples(t *testing.T) {
	is(t, "{a:b(c:[1,$d],e:{f:null}) @g{...h ...on I{j}}}", query(api.Sel{
		Kind: api.SelField, Alias: "a", Name: "b",
		Args: []api.Arg{
			{Name: "c", Value: list(word(api.ValInt, "1"), word(api.ValVar, "d"))},
			{Name: "e", Value: api.Value{Kind: api.ValObject, Names: []string{"f"}, List: []api.Value{{Kind: api.ValNull}}}},
		},
		Directives: []api.Directive{{Name: "g"}},
		Sels: []api.Sel{
			{Kind: api.SelSpread, Name: "h"},
			{Kind: api.SelInline, On: "I", Sels: []api.Sel{{Kind: api.SelField, Name: "j"}}},
		},
	}))
	is(t, "query($a:[Int!]!=[]){a}", asked(api.Var{Name: "a", Type: api.Ref{Name: "Int", Wraps: "![!"}, Has: true, Default: list()}))
	isWrong(t, "", 0, api.ErrSyntax)
	isWrong(t, "{}", 1, api.ErrSyntax)
	isWrong(t, "{a", 2, api.ErrSyntax)
	isWrong(t, "fragment on on A{a}", 9, api.ErrSyntax)
	isWrong(t, "{a(b:$)}", 6, api.ErrSyntax)
	isWrong(t, "query($a:Int=$b){a}", 13, api.ErrSyntax)
	isWrong(t, strings.Repeat("{a", 33), 64, api.ErrSyntaxDeep)
}

func TestParseOperations(t *testing.T) {
	a := []api.Sel{{Name: "a"}}
	v := []api.Var{{Name: "v", Type: api.Ref{Name: "T"}}}
	d := []api.Directive{{Name: "d"}}
	is(t, "{a}", api.Doc{Ops: []api.Op{{Sels: a}}})
	for word, kind := range map[string]int{"query": api.OpQuery, "mutation": api.OpMutation, "subscription": api.OpSubscription} {
		is(t, word+"{a}", api.Doc{Ops: []api.Op{{Kind: kind, Sels: a}}})
		is(t, word+" n{a}", api.Doc{Ops: []api.Op{{Kind: kind, Name: "n", Sels: a}}})
		is(t, word+"($v:T){a}", api.Doc{Ops: []api.Op{{Kind: kind, Vars: v, Sels: a}}})
		is(t, word+"@d{a}", api.Doc{Ops: []api.Op{{Kind: kind, Directives: d, Sels: a}}})
		is(t, word+" n($v:T){a}", api.Doc{Ops: []api.Op{{Kind: kind, Name: "n", Vars: v, Sels: a}}})
		is(t, word+" n@d{a}", api.Doc{Ops: []api.Op{{Kind: kind, Name: "n", Directives: d, Sels: a}}})
		is(t, word+"($v:T)@d{a}", api.Doc{Ops: []api.Op{{Kind: kind, Vars: v, Directives: d, Sels: a}}})
		is(t, word+" n($v:T)@d{a}", api.Doc{Ops: []api.Op{{Kind: kind, Name: "n", Vars: v, Directives: d, Sels: a}}})
		isWrong(t, word, len(word), api.ErrSyntax)
		for _, s := range []string{"\x00", " n\x00", " n \x00m{a}", "(\x00){a}", "($v:T)\x00", "($v:T)\x00($v:T){a}", "($v:T)\x00n{a}", "@d\x00", "@d \x00n{a}", "@d(\x00$v:T){a}", "{\x00}", "\x00:{a}", "\x00\"n\"{a}", " \x001{a}", "\x00...{a}", "\x00[", "\x00}"} {
			isWrongAt(t, word+s, api.ErrSyntax)
		}
	}
	for _, s := range []string{"\x00a{a}", "\x00Query{a}", "\x00queri{a}", "\x00type A{a:Int}", "\x00schema{query:A}", "\x00extend type A{a:Int}", "\x00on{a}", "\x00null{a}", "\x00\"query\"{a}", "\x00\"fragment\" a on A{a}", "\x00\"\"", "\x001", "\x00-1.5", "\x00(", "\x00}", "\x00@a{a}", "\x00...", "\x00$", "\x00&", "\x00|", "\x00[", "\x00]", "\x00!", "\x00:", "\x00=", "\x00)"} {
		isWrongAt(t, s, api.ErrSyntax)
		isWrongAt(t, "{a}"+s, api.ErrSyntax)
		isWrongAt(t, "fragment a on A{a}"+s, api.ErrSyntax)
	}
}

func TestParseFragments(t *testing.T) {
	a := []api.Sel{{Name: "a"}}
	is(t, "fragment n on T{a}", api.Doc{Frags: []api.Frag{{Name: "n", On: "T", Sels: a}}})
	is(t, "fragment n on T@d@e{a}", api.Doc{Frags: []api.Frag{{Name: "n", On: "T", Directives: []api.Directive{{Name: "d"}, {Name: "e"}}, Sels: a}}})
	is(t, "fragment n on T{a}fragment m on U{a}fragment n on T{a}", api.Doc{Frags: []api.Frag{{Name: "n", On: "T", Sels: a}, {Name: "m", On: "U", Sels: a}, {Name: "n", On: "T", Sels: a}}})
	for _, s := range []string{"\x00", " \x00on", " \x00on on T{a}", " n\x00", " n \x00T", " n\x00{a}", " n\x00@d{a}", " n \x00\"on\" T{a}", " n on\x00", " n on\x00{a}", " n on\x00@d{a}", " n on T\x00", " n on T\x00!{a}", " n on \x00[T]{a}", " n on T \x00U{a}", " n on T@d\x00", " n on T{\x00}", " n\x00($v:T)on T{a}", "\x00{a}", "\x00(", "\x00@", "\x00\"n\" on T{a}", " \x001", " n on \x00\"T\"{a}"} {
		isWrongAt(t, "fragment"+s, api.ErrSyntax)
	}
}

func TestParseOrder(t *testing.T) {
	op := func(kind int, name string) api.Op {
		return api.Op{Kind: kind, Name: name, Sels: []api.Sel{{Name: "a"}}}
	}
	frag := func(name string) api.Frag { return api.Frag{Name: name, On: "T", Sels: []api.Sel{{Name: "a"}}} }
	is(t, "{a}{a}", api.Doc{Ops: []api.Op{op(0, ""), op(0, "")}})
	is(t, "{a}query{a}{a}", api.Doc{Ops: []api.Op{op(0, ""), op(0, ""), op(0, "")}})
	is(t, "query q{a}mutation q{a}subscription q{a}query q{a}", api.Doc{Ops: []api.Op{op(api.OpQuery, "q"), op(api.OpMutation, "q"), op(api.OpSubscription, "q"), op(api.OpQuery, "q")}})
	want := api.Doc{Ops: []api.Op{op(api.OpMutation, "b"), op(api.OpQuery, "a")}, Frags: []api.Frag{frag("d"), frag("c")}}
	b, a, d, c := "mutation b{a}", "query a{a}", "fragment d on T{a}", "fragment c on T{a}"
	for _, l := range [][]string{{b, a, d, c}, {b, d, a, c}, {b, d, c, a}, {d, b, a, c}, {d, b, c, a}, {d, c, b, a}} {
		is(t, strings.Join(l, ""), want)
		is(t, strings.Join(l, "\n,"), want)
	}
}

func TestParseSelections(t *testing.T) {
	b := []api.Sel{{Name: "b"}}
	x := []api.Arg{{Name: "x", Value: word(api.ValInt, "1")}}
	d := []api.Directive{{Name: "d", Args: x}, {Name: "d"}}
	for s, want := range map[string]api.Sel{
		"a":                    {Name: "a"},
		"c:a":                  {Alias: "c", Name: "a"},
		"a:a":                  {Alias: "a", Name: "a"},
		"a(x:1)":               {Name: "a", Args: x},
		"a@d(x:1)@d":           {Name: "a", Directives: d},
		"a{b}":                 {Name: "a", Sels: b},
		"a(x:1){b}":            {Name: "a", Args: x, Sels: b},
		"a@d(x:1)@d{b}":        {Name: "a", Directives: d, Sels: b},
		"c:a(x:1)@d(x:1)@d{b}": {Alias: "c", Name: "a", Args: x, Directives: d, Sels: b},
		"c:a(x:1)@d(x:1)@d":    {Alias: "c", Name: "a", Args: x, Directives: d},
		"...f":                 {Kind: api.SelSpread, Name: "f"},
		"...f@d(x:1)@d":        {Kind: api.SelSpread, Name: "f", Directives: d},
		"...{b}":               {Kind: api.SelInline, Sels: b},
		"...@d(x:1)@d{b}":      {Kind: api.SelInline, Directives: d, Sels: b},
		"...on T{b}":           {Kind: api.SelInline, On: "T", Sels: b},
		"...on T@d(x:1)@d{b}":  {Kind: api.SelInline, On: "T", Directives: d, Sels: b},
		"...on on{b}":          {Kind: api.SelInline, On: "on", Sels: b},
	} {
		is(t, "{"+s+"}", query(want))
		is(t, "{"+s+" "+s+"}", query(want, want))
		is(t, "{z "+s+",z}", query(api.Sel{Name: "z"}, want, api.Sel{Name: "z"}))
		is(t, "{z{"+s+"}}", query(api.Sel{Name: "z", Sels: []api.Sel{want}}))
		is(t, "{...{"+s+"}}", query(api.Sel{Kind: api.SelInline, Sels: []api.Sel{want}}))
		is(t, "fragment f on T{"+s+"}", api.Doc{Frags: []api.Frag{{Name: "f", On: "T", Sels: []api.Sel{want}}}})
	}
	is(t, "{a{b}...on T@d(x:1)@d{b}...f}", query(api.Sel{Name: "a", Sels: b}, api.Sel{Kind: api.SelInline, On: "T", Directives: d, Sels: b}, api.Sel{Kind: api.SelSpread, Name: "f"}))
}

func TestParseSelectionsWrong(t *testing.T) {
	isWrong(t, "{}", 1, api.ErrSyntax)
	isWrong(t, "{z{}}", 3, api.ErrSyntax)
	isWrong(t, "{...{}}", 5, api.ErrSyntax)
	isWrong(t, "{z{y}", 5, api.ErrSyntax)
	isWrong(t, "{a}}", 3, api.ErrSyntax)
	for _, s := range []string{
		"\x00{", "\x00(", "\x00)", "\x00:", "\x00@a", "\x00$a", "\x001", "\x001.5", "\x00\"a\"", "\x00[", "\x00]", "\x00!", "\x00=", "\x00&", "\x00|", "\x00",
		"a\x00", "a:\x00", "a:\x00}", "a:\x00{", "a:\x00:b}", "a:b\x00:c}", "a:\x00...", "a:\x00\"b\"}", "a:\x001}", "a:\x00$b}", "a:\x00(x:1)}", "a:\x00@d}",
		"a(\x00)}", "a(\x00", "a(x:1)\x00(x:1)}", "a(x:1)\x00:", "a@d\x00:b}", "a@d(x:1)\x00(x:1)}", "a@\x00}", "a@d@\x00}", "a@\x00(x:1)}", "a@\x00\"d\"}", "a@\x001}", "a@\x00@d}", "a@d(\x00)}", "a@\x00",
		"a{\x00}}", "a{b}\x00{c}}", "a{b}\x00(x:1)}", "a{b}\x00@d}", "a{b}\x00:c}", "a{b}\x00", "a \x00=", "a\x00!", "a\x00$b}", "a\x00[", "a\x00\"b\"}", "a\x00|b}", "a\x00&b}", "a \x001}", "a\x00)", "a\x00]",
		"...\x00}", "...\x00", "...\x00...", "...\x00(x:1)}", "...\x00:f}", "...\x00\"f\"}", "...\x00\"on\" T{b}}", "...\x00$f}", "... \x001}", "...\x00[", "...\x00!",
		"...f\x00{b}}", "...f\x00(x:1)}", "...f\x00:a}", "...f@d\x00{b}}", "...f\x00", "...f@\x00}", "...f@d(\x00)}", "...f@d\x00:a}",
		"...on\x00}", "...on\x00{b}}", "...on\x00@d{b}}", "...on\x00:a}", "...on\x00(x:1)}", "...on\x00", "...on T\x00}", "...on T\x00", "...on T \x00U{b}}", "...on T\x00!{b}}", "...on \x00[T]{b}}", "...on T\x00(x:1){b}}", "...on T\x00:a}", "...on T@d\x00}", "...on T@d \x00U{b}}", "...on \x00\"T\"{b}}",
		"...{\x00}}", "...{b}\x00@d}", "...{b}\x00{c}}", "...{b}\x00(x:1)}", "...@d\x00}", "...@d \x00f}", "...@d \x00on T{b}}", "...@d\x00...", "...on T{b}\x00{c}}", "...on T{\x00}}",
	} {
		isWrongAt(t, "{"+s, api.ErrSyntax)
		isWrongAt(t, "{z{y}"+s, api.ErrSyntax)
		isWrongAt(t, "{z{"+s, api.ErrSyntax)
		isWrongAt(t, "fragment f on T@d{z(x:[]){...on T@d{"+s, api.ErrSyntax)
	}
}

func TestParseVariables(t *testing.T) {
	ref := api.Ref{Name: "T"}
	one := word(api.ValInt, "1")
	d := []api.Directive{{Name: "d"}, {Name: "e", Args: []api.Arg{{Name: "x", Value: one}}}}
	is(t, "query($v:T){a}", asked(api.Var{Name: "v", Type: ref}))
	is(t, "query($v:T=1){a}", asked(api.Var{Name: "v", Type: ref, Has: true, Default: one}))
	is(t, "query($v:T=null){a}", asked(api.Var{Name: "v", Type: ref, Has: true}))
	is(t, "query($v:T@d@e(x:1)){a}", asked(api.Var{Name: "v", Type: ref, Directives: d}))
	is(t, "query($v:T=1@d@e(x:1)){a}", asked(api.Var{Name: "v", Type: ref, Has: true, Default: one, Directives: d}))
	is(t, "query($v:T$w:T!=1$v:T@d@e(x:1)$v:T){a}", asked(api.Var{Name: "v", Type: ref}, api.Var{Name: "w", Type: api.Ref{Name: "T", Wraps: "!"}, Has: true, Default: one}, api.Var{Name: "v", Type: ref, Directives: d}, api.Var{Name: "v", Type: ref}))
	is(t, "query($v:T=[1{x:[]}]@d){a}", asked(api.Var{Name: "v", Type: ref, Has: true, Default: list(one, api.Value{Kind: api.ValObject, Names: []string{"x"}, List: []api.Value{list()}}), Directives: d[:1]}))
	isWrong(t, "query(){a}", 6, api.ErrSyntax)
	isWrong(t, "query(@d){a}", 6, api.ErrSyntax)
	for _, s := range []string{
		"\x00", "\x00v:T)", "\x00:T)", "\x00\"$v\":T)", "$\x00", "$\x00:T)", "$\x00$v:T)", "$\x001:T)", "$\x00\"v\":T)", "$v\x00", "$v\x00)", "$v \x00T)", "$v\x00=1)", "$v\x00@d)", "$v:\x00", "$v:\x00)", "$v:\x00=1)", "$v:\x00!)", "$v:\x00$w)", "$v:\x001)", "$v:\x00\"T\")", "$v:\x00{", "$v:\x00(", "$v:T\x00", "$v:T \x00U)", "$v:T\x00:U)", "$v:T\x00|U)", "$v:T\x00&U)", "$v:T\x00(", "$v:T\x00]", "$v:T\x00[", "$v:T=\x00)", "$v:T=\x00", "$v:T=\x00=1)", "$v:T=1\x00=1)", "$v:T=1 \x002)", "$v:T=1\x00!)", "$v:T=\x00@d)", "$v:T=a \x00b)", "$v:T@\x00)", "$v:T@d\x00=1)", "$v:T@d\x00!)", "$v:T@d(\x00))", "$v:T@d \x00w)", "$v:T)\x00)", "$v:T)\x00", "$v:T)\x00=1", "$v:T$\x00)", "$v:T \x00w:T)", "$v:T=1\x00{", "$v:T\x00{", "$v:T\x00...",
	} {
		isWrongAt(t, "query("+s, api.ErrSyntax)
		isWrongAt(t, "mutation m($u:[U]=[{}]@d(x:1)"+s, api.ErrSyntax)
	}
}

// In a variable's definition no value has a variable in it, however deep; behind the definitions they may be again.
func TestParseConst(t *testing.T) {
	for _, s := range []string{"\x00$b", "[\x00$b]", "[1 \x00$b]", "[[]\x00$b]", "{x:\x00$b}", "{x:[\x00$b]}", "[{x:1 y:\x00$b}]", "[[[\x00$b", "{x:{y:{z:\x00$b"} {
		isWrongAt(t, "query($a:T="+s, api.ErrSyntax)
		isWrongAt(t, "query($a:T@d(x:"+s, api.ErrSyntax)
		isWrongAt(t, "query($a:T=1@c@d(w:1 x:"+s, api.ErrSyntax)
		isWrongAt(t, "query q($b:T=1 $a:T="+s, api.ErrSyntax)
		isWrongAt(t, "query q($b:T=1@d(x:1)$a:T="+s, api.ErrSyntax)
		isWrongAt(t, "query q($b:T){a(x:$b)@d(x:[$b])}mutation($a:T="+s, api.ErrSyntax)
	}
	b := word(api.ValVar, "b")
	x := []api.Arg{{Name: "x", Value: b}}
	d := []api.Directive{{Name: "d", Args: x}}
	v := []api.Var{{Name: "b", Type: api.Ref{Name: "T"}, Has: true, Default: list()}}
	is(t, "query($b:T=[])@d(x:$b){a(x:$b)@d(x:$b){...f@d(x:$b)...on T@d(x:$b){a(x:$b)}}}", api.Doc{Ops: []api.Op{{Vars: v, Directives: d, Sels: []api.Sel{{Name: "a", Args: x, Directives: d, Sels: []api.Sel{{Kind: api.SelSpread, Name: "f", Directives: d}, {Kind: api.SelInline, On: "T", Directives: d, Sels: []api.Sel{{Name: "a", Args: x}}}}}}}}})
	is(t, "query($b:T=[]){a}query@d(x:$b){a}fragment f on T@d(x:$b){a(x:$b)}", api.Doc{Ops: []api.Op{{Vars: v, Sels: []api.Sel{{Name: "a"}}}, {Directives: d, Sels: []api.Sel{{Name: "a"}}}}, Frags: []api.Frag{{Name: "f", On: "T", Directives: d, Sels: []api.Sel{{Name: "a", Args: x}}}}})
	// No place of a variable is held against a definition here.
	is(t, "{a(x:$b)}", query(api.Sel{Name: "a", Args: x}))
}

func TestParseTypes(t *testing.T) {
	for s, wraps := range map[string]string{
		"T": "", "T!": "!", "[T]": "[", "[T!]": "![", "[T]!": "[!", "[T!]!": "![!", "[[T]]": "[[", "[[T]!]": "[![", "[[T!]]": "![[", "[[T]]!": "[[!", "[[T!]!]!": "![![!", "[[[T]!]]!": "[![[!", "[ [ T ! ] ]": "![[",
	} {
		v := api.Var{Name: "v", Type: api.Ref{Name: "T", Wraps: wraps}}
		w := api.Var{Name: "w", Type: v.Type, Has: true, Default: list()}
		is(t, "query($v:"+s+"){a}", asked(v))
		is(t, "query($v:"+s+"$w:"+s+"=[]){a}", asked(v, w))
	}
	for _, s := range []string{"T!\x00!", "[T]!\x00!", "[T!\x00!]", "\x00!T", "\x00!", "\x00]", "[\x00]", "[\x00!]", "[T\x00)", "[T\x00", "[\x00", "[\x00)", "[[T]\x00)", "[[T]\x00", "[T]\x00]", "T\x00[", "[T \x00U]", "[T]\x00[U]", "[T\x00[", "[T\x00=1]", "[T\x00@d]", "[\x00$v]", "[\x001]", "[\x00\"T\"]", "[T\x00:U]", "\x00{T}", "\x00(T)", "[\x00{T}]", "[T]\x00{", "[T]\x00..."} {
		isWrongAt(t, "query($v:"+s, api.ErrSyntax)
		isWrongAt(t, "query($u:[T!]!=[] $v:"+s, api.ErrSyntax)
	}
}

func TestParseValues(t *testing.T) {
	object := func(names string, l ...api.Value) api.Value {
		return api.Value{Kind: api.ValObject, Names: strings.Fields(names), List: l}
	}
	if empty := object(""); len(empty.Names) != 0 {
		t.Fatal(empty)
	}
	for s, want := range map[string]api.Value{
		"null": {}, "false": {Kind: api.ValFalse}, "true": {Kind: api.ValTrue}, "$a": word(api.ValVar, "a"), "$ a": word(api.ValVar, "a"), "a": word(api.ValEnum, "a"), "Null": word(api.ValEnum, "Null"), "nulls": word(api.ValEnum, "nulls"), "TRUE": word(api.ValEnum, "TRUE"), "_": word(api.ValEnum, "_"),
		"0": word(api.ValInt, "0"), "-0": word(api.ValInt, "-0"), "12345678901234567890": word(api.ValInt, "12345678901234567890"), "0.0": word(api.ValFloat, "0.0"), "-1.50E+05": word(api.ValFloat, "-1.50E+05"), "1e999": word(api.ValFloat, "1e999"),
		`""`: word(api.ValText, ""), `"a"`: word(api.ValText, "a"), `"\u0041\n"`: word(api.ValText, "A\n"), `"\ud800"`: word(api.ValText, "\xed\xa0\x80"), "\"\"\"\n  a\n   b\n\"\"\"": word(api.ValText, "a\n b"), `""""""`: word(api.ValText, ""),
		"[]": list(), "[1]": list(word(api.ValInt, "1")), "[a $a \"a\"]": list(word(api.ValEnum, "a"), word(api.ValVar, "a"), word(api.ValText, "a")), "[[][[]]]": list(list(), list(list())), "[null,{}]": list(api.Value{}, api.Value{Kind: api.ValObject}),
		"{}": {Kind: api.ValObject}, "{a:1}": object("a", word(api.ValInt, "1")), "{a:1 a:1.0}": object("a a", word(api.ValInt, "1"), word(api.ValFloat, "1.0")), "{b:$a,a:{a:[{}]}}": object("b a", word(api.ValVar, "a"), object("a", list(api.Value{Kind: api.ValObject}))), "{null:true on:on}": object("null on", api.Value{Kind: api.ValTrue}, word(api.ValEnum, "on")),
	} {
		x := []api.Arg{{Name: "x", Value: want}}
		is(t, "{a(x:"+s+")}", query(api.Sel{Name: "a", Args: x}))
		is(t, "{a(x:"+s+",x:"+s+")}", query(api.Sel{Name: "a", Args: append(x, x...)}))
		is(t, "{a@d(x:"+s+")}", query(api.Sel{Name: "a", Directives: []api.Directive{{Name: "d", Args: x}}}))
		is(t, "{a(x:["+s+","+s+"])}", query(api.Sel{Name: "a", Args: []api.Arg{{Name: "x", Value: list(want, want)}}}))
		is(t, "{a(x:{y:"+s+",z:"+s+"})}", query(api.Sel{Name: "a", Args: []api.Arg{{Name: "x", Value: object("y z", want, want)}}}))
		if !strings.Contains(s, "$") {
			is(t, "query($v:T="+s+"@d(x:"+s+")){a}", asked(api.Var{Name: "v", Type: api.Ref{Name: "T"}, Has: true, Default: want, Directives: []api.Directive{{Name: "d", Args: x}}}))
		}
	}
}

func TestParseValuesWrong(t *testing.T) {
	for _, s := range []string{
		"\x00", "\x00)", "\x00:", "\x00!", "\x00@d", "\x00=", "\x00...", "\x00]", "\x00}", "\x00(", "\x00&", "\x00|", "$\x00", "$\x00)", "$\x00$a", "$\x001", "$\x00\"a\"", "$\x00[", "$a\x00:", "1\x00:", "1 \x002", "a\x00!", "\"a\"\x00\"b\"", "1\x00", "$a\x00$b",
		"[\x00", "[\x00)", "[\x00}", "[\x00:", "[1\x00", "[1\x00)", "[1\x00}", "[a\x00:1]", "[$\x00]", "[\x00@d]", "[\x00...]", "[\x00!]", "[[\x00)", "[[]\x00)", "[]\x00]", "[]\x00[]",
		"{\x00", "{\x00)", "{\x00]", "{\x00{", "{\x001", "{\x001:1}", "{\x00\"a\":1}", "{\x00$a:1}", "{\x00:1}", "{\x00[", "{\x00...", "{a\x00", "{a\x00}", "{a \x00b}", "{a\x00=1}", "{a \x001}", "{a\x00(", "{a:\x00", "{a:\x00}", "{a:\x00)", "{a:\x00:1}", "{a:1\x00", "{a:1\x00]", "{a:1\x00)", "{a:1 \x002}", "{a:1\x00:1}", "{a:1 b\x00}", "{a:b\x00:c}", "{a:{\x00)", "{}\x00{}", "{}\x00[]", "{a:1\x00@d}", "{a\x00{",
	} {
		isWrongAt(t, "{a(x:"+s, api.ErrSyntax)
		isWrongAt(t, "{a(w:[{y:$b}]x:"+s, api.ErrSyntax)
		isWrongAt(t, "{...@d(x:"+s, api.ErrSyntax)
		isWrongAt(t, "{a(x:[{y:"+s, api.ErrSyntax)
	}
}

// A text that says a punctuator or a name is none.
func TestParseTexts(t *testing.T) {
	for _, c := range []string{"{", "}", "(", ")", "[", "]", ":", "=", "!", "@", "$", "...", "|", "&", "on", "query", "fragment", "null", "true", "a", "1", ""} {
		text := word(api.ValText, c)
		q := lex.Quote(c)
		is(t, "{a(x:"+q+")}", query(api.Sel{Name: "a", Args: []api.Arg{{Name: "x", Value: text}}}))
		is(t, "{a(x:["+q+" "+q+"])}", query(api.Sel{Name: "a", Args: []api.Arg{{Name: "x", Value: list(text, text)}}}))
		for _, s := range []string{"\x00%", "query\x00%", "query q\x00%", "query(\x00%", "query($\x00%", "query($v\x00%", "query($v:\x00%", "query($v:T\x00%", "query($v:[T\x00%", "query($v:[T]\x00%", "query($v:T=1\x00%", "query($v:T)\x00%", "query@\x00%", "query@d\x00%", "{\x00%", "{a\x00%", "{a:\x00%", "{a(\x00%", "{a(x\x00%", "{a(x:1\x00%", "{a(x:$\x00%", "{a(x:{\x00%", "{a(x:{y\x00%", "{a(x:{y:1\x00%", "{...\x00%", "{...on\x00%", "{...on T\x00%", "{...f\x00%", "{a{b}\x00%", "{a}\x00%", "fragment\x00%", "fragment f\x00%", "fragment f on\x00%", "fragment f on T\x00%"} {
			isWrongAt(t, strings.ReplaceAll(s, "%", q), api.ErrSyntax)
		}
	}
}

// Any name may stand wherever a name may, but `on` as a fragment's.
func TestParseNames(t *testing.T) {
	for _, n := range []string{"on", "query", "mutation", "subscription", "fragment", "null", "true", "false", "type", "_", "a1", strings.Repeat("n", 500)} {
		v := word(api.ValVar, n)
		args := []api.Arg{{Name: n, Value: api.Value{Kind: api.ValObject, Names: []string{n}, List: []api.Value{v}}}}
		d := []api.Directive{{Name: n, Args: args}}
		plain := []api.Directive{{Name: n, Args: []api.Arg{{Name: n, Value: word(api.ValInt, "1")}}}}
		field := []api.Sel{{Alias: n, Name: n, Args: args, Directives: d, Sels: []api.Sel{{Name: n}, {Name: n}, {Kind: api.SelInline, On: n, Directives: d, Sels: []api.Sel{{Name: n}}}}}}
		for kindWord, kind := range map[string]int{"query": api.OpQuery, "mutation": api.OpMutation, "subscription": api.OpSubscription} {
			is(t, strings.ReplaceAll(kindWord+" N($N:[N]@N(N:1))@N(N:{N:$N}){N:N(N:{N:$N})@N(N:{N:$N}){N N...on N@N(N:{N:$N}){N}}}", "N", n), api.Doc{Ops: []api.Op{{
				Kind: kind, Name: n, Vars: []api.Var{{Name: n, Type: api.Ref{Name: n, Wraps: "["}, Directives: plain}}, Directives: d, Sels: field,
			}}})
		}
		is(t, "{"+n+":"+n+"}", query(api.Sel{Alias: n, Name: n}))
		if n == "on" {
			isWrongAt(t, "fragment \x00on on on{on}", api.ErrSyntax)
			isWrongAt(t, "{...on\x00}", api.ErrSyntax)
			continue
		}
		is(t, "fragment "+n+" on "+n+"{..."+n+" "+n+"}", api.Doc{Frags: []api.Frag{{Name: n, On: n, Sels: []api.Sel{{Kind: api.SelSpread, Name: n}, {Name: n}}}}})
		is(t, "{..."+n+"@"+n+"}", query(api.Sel{Kind: api.SelSpread, Name: n, Directives: []api.Directive{{Name: n}}}))
	}
	is(t, "fragment f on on{on}", api.Doc{Frags: []api.Frag{{Name: "f", On: "on", Sels: []api.Sel{{Name: "on"}}}}})
	is(t, "{...on on{on}on}", query(api.Sel{Kind: api.SelInline, On: "on", Sels: []api.Sel{{Name: "on"}}}, api.Sel{Name: "on"}))
	is(t, "{...f on}", query(api.Sel{Kind: api.SelSpread, Name: "f"}, api.Sel{Name: "on"}))
	is(t, "{...f on T}", query(api.Sel{Kind: api.SelSpread, Name: "f"}, api.Sel{Name: "on"}, api.Sel{Name: "T"}))
	is(t, "query query{query}", api.Doc{Ops: []api.Op{{Name: "query", Sels: []api.Sel{{Name: "query"}}}}})
	isWrongAt(t, "query query \x00query{a}", api.ErrSyntax)
	isWrongAt(t, "fragment fragment \x00fragment{a}", api.ErrSyntax)
}

// Deep

// nested is n times what goes in, what is innermost, and n times what goes out.
func nested(n int, in, within, out string) string {
	return strings.Repeat(in, n) + within + strings.Repeat(out, n)
}

func TestParseDeepSets(t *testing.T) {
	for _, before := range []string{"", "query", "mutation m($v:[T]=[{}])@d(x:[[]])", "fragment f on T@d", "{a}", "fragment f on T" + nested(32, "{a", "", "}")} {
		// What a set is opened by within another, and behind it.
		for _, in := range []string{"{a", "{b a", "{a:a(x:{y:[1]})@d", "{...", "{...on T", "{...@d", "{...on T@d(x:{y:[1]})"} {
			if _, _, e := isAsModel(t, before+nested(31, in, "{b}", "}")); e != api.OK {
				t.Errorf("%.30q and 31 times %q: %d", before, in, e)
			}
			s := before + strings.Repeat(in, 32)
			isWrong(t, s+"{b}"+strings.Repeat("}", 32), len(s), api.ErrSyntaxDeep)
			for _, behind := range []string{"{", "{}", "{{", "{)", "{a{"} {
				isWrong(t, s+behind, len(s), api.ErrSyntaxDeep)
			}
			for _, behind := range []string{"", "[", ")", "=", "!"} {
				isWrong(t, s+behind, len(s), api.ErrSyntax)
			}
		}
	}
	if _, _, e := isAsModel(t, nested(32, "{a", "", "}")); e != api.OK {
		t.Error(e)
	}
	// A token that could not follow anyway is told so, however deep.
	s := strings.Repeat("{a", 31) + "{"
	isWrong(t, s+"{", 63, api.ErrSyntax)
	isWrong(t, s+"}", 63, api.ErrSyntax)
	isWrong(t, s+"a:{", 65, api.ErrSyntax)
	isWrong(t, s+"...f{", 67, api.ErrSyntax)
	isWrong(t, s+"...on{", 68, api.ErrSyntax)
	isWrong(t, s+"...{", 66, api.ErrSyntaxDeep)
	isWrong(t, s+"a@{", 65, api.ErrSyntax)
	isWrong(t, s+"a@d{", 66, api.ErrSyntaxDeep)
	isWrong(t, s+"a[", 64, api.ErrSyntax)
	// What has ended is not counted.
	s = strings.Repeat("{a", 31) + "{a b}"
	if _, _, e := isAsModel(t, s+strings.Repeat("b{c}", 20)+strings.Repeat("}", 31)); e != api.OK {
		t.Error(e)
	}
	if _, _, e := isAsModel(t, "{"+strings.Repeat("a{b}", 100)+"}"); e != api.OK {
		t.Error(e)
	}
	if _, _, e := isAsModel(t, strings.Repeat(nested(32, "{a", "", "}"), 20)); e != api.OK {
		t.Error(e)
	}
}

func TestParseDeepValues(t *testing.T) {
	for _, before := range []string{"{a(x:", "{a(x:" + nested(32, "[", "", "]") + "y:", "{a@d(x:", "query($v:T=", "query($v:T@d(x:", "query($v:[[[T]]]=", "query@d(x:", "fragment f on T@d(x:", strings.Repeat("{a", 32) + "(x:", "query($v:" + nested(32, "[", "T", "]") + "="} {
		for _, x := range []struct{ in, within, out string }{{"[", "", "]"}, {"{x:", "1", "}"}, {"[1[]{}", "2", "]"}, {"{y:[]x:", "1", "}"}} {
			s := before + strings.Repeat(x.in, 31)
			for _, last := range []string{"[", "{"} {
				isWrong(t, s+last, len(s)+1, api.ErrSyntax)
				isWrong(t, s+"["+last, len(s)+1, api.ErrSyntaxDeep)
				isWrong(t, s+"{z:"+last, len(s)+3, api.ErrSyntaxDeep)
				isWrong(t, s+"[1 "+last, len(s)+3, api.ErrSyntaxDeep)
				isWrong(t, s+"{z:1 w:"+last+")", len(s)+7, api.ErrSyntaxDeep)
				isWrong(t, s+"{"+last, len(s)+1, api.ErrSyntax)
				isWrong(t, s+"{z"+last, len(s)+2, api.ErrSyntax)
				isWrong(t, s+"{z:1"+last, len(s)+4, api.ErrSyntax)
			}
			for _, innermost := range []string{"[]", "{}", "[1]", "{z:1}"} {
				all := s + innermost + strings.Repeat(x.out, 31)
				isWrong(t, all, len(all), api.ErrSyntax)
			}
		}
	}
	// Lists and objects are counted together.
	mixed := strings.Repeat("[{x:", 16)
	is(t, "{a(x:"+mixed+"1"+strings.Repeat("}]", 16)+")}", query(api.Sel{Name: "a", Args: []api.Arg{{Name: "x", Value: mixedValue(16)}}}))
	isWrong(t, "{a(x:"+mixed+"[", 5+64, api.ErrSyntaxDeep)
	isWrong(t, "{a(x:"+mixed+"{", 5+64, api.ErrSyntaxDeep)
	if _, _, e := isAsModel(t, "{a(x:"+nested(31, "[", strings.Repeat("[]{}", 50), "]")+"y:"+nested(32, "[", "", "]")+")@d(x:"+nested(32, "[", "", "]")+")}"); e != api.OK {
		t.Error(e)
	}
}

// mixedValue is n times an object in a list.
func mixedValue(n int) api.Value {
	v := word(api.ValInt, "1")
	for range n {
		v = list(api.Value{Kind: api.ValObject, Names: []string{"x"}, List: []api.Value{v}})
	}
	return v
}

func TestParseDeepTypes(t *testing.T) {
	is(t, "query($v:"+nested(32, "[", "T", "]")+"){a}", asked(api.Var{Name: "v", Type: api.Ref{Name: "T", Wraps: strings.Repeat("[", 32)}}))
	is(t, "query($v:"+nested(32, "[", "T!", "]!")+"){a}", asked(api.Var{Name: "v", Type: api.Ref{Name: "T", Wraps: "!" + strings.Repeat("[!", 32)}}))
	for _, before := range []string{"query($v:", "query q($u:" + nested(32, "[", "T", "]") + "=[[1]]$v:", "{a}query($v:"} {
		s := before + strings.Repeat("[", 32)
		isWrong(t, s+"[", len(s), api.ErrSyntaxDeep)
		isWrong(t, s+"[T", len(s), api.ErrSyntaxDeep)
		isWrong(t, s+"[)", len(s), api.ErrSyntaxDeep)
		isWrong(t, s+"]", len(s), api.ErrSyntax)
		isWrong(t, s+"T[", len(s)+1, api.ErrSyntax)
		isWrong(t, s+"{", len(s), api.ErrSyntax)
		isWrong(t, s, len(s), api.ErrSyntax)
	}
	// Each kind is counted by itself: all of them at once.
	deep := nested(32, "[", "", "]")
	s := "query($v:" + nested(32, "[", "T", "]") + "=" + deep + "@d(x:" + deep + "))@d(x:" + deep + ")" + nested(32, "{a(x:"+deep+")", "", "}")
	if d, _, e := isAsModel(t, s); e != api.ErrLexMany || len(d.Ops) > 0 {
		t.Error(e)
	}
	s = "query($v:" + nested(32, "[", "T", "]") + "=" + deep + "@d(x:" + deep + "))@d(x:" + deep + ")" + strings.Repeat("{a", 31) + "{a(x:" + deep + ")" + strings.Repeat("}", 32)
	if _, _, e := isAsModel(t, s); e != api.OK {
		t.Error(e)
	}
}

// Which of several things decides: what is no token at all, else the first token that can't follow.
func TestParseFirst(t *testing.T) {
	isWrong(t, "}} %", 3, api.ErrLexChar)
	isWrong(t, "{a %", 3, api.ErrLexChar)
	isWrong(t, "} 1.", 2, api.ErrLexNumber)
	isWrong(t, "} \"a", 2, api.ErrLexText)
	isWrong(t, "}#\x01", 2, api.ErrLexChar)
	isWrong(t, "}"+strings.Repeat(" ", 16384), 0, api.ErrLexLong)
	isWrong(t, "}"+strings.Repeat("{", 2048), 2048, api.ErrLexMany)
	isWrong(t, strings.Repeat("{a", 40)+"%", 80, api.ErrLexChar)
	isWrong(t, strings.Repeat("{a", 40)+"}", 64, api.ErrSyntaxDeep)
	isWrong(t, "{:"+strings.Repeat("{a", 40), 1, api.ErrSyntax)
	isWrong(t, strings.Repeat("{a", 31)+"{:{", 63, api.ErrSyntax)
	isWrong(t, "{a()b()}", 3, api.ErrSyntax)
	isWrong(t, "{a b: }", 6, api.ErrSyntax)
	isWrong(t, "query($a:Int=$b){}", 13, api.ErrSyntax)
	isWrong(t, "{a(b:"+strings.Repeat("[", 33)+strings.Repeat("{a", 33), 37, api.ErrSyntaxDeep)
	isWrong(t, "query($v:"+strings.Repeat("[", 33)+"=", 41, api.ErrSyntaxDeep)
	isWrong(t, "{a}"+strings.Repeat("a ", 2048), 4093, api.ErrLexMany)
	isWrong(t, "{"+strings.Repeat("a ", 2046), 4093, api.ErrSyntax)
	isWrong(t, strings.Repeat("a ", 2048), 0, api.ErrSyntax)
}

// The place of what lacks is the end of all, whatever is ignored there.
func TestParseEnd(t *testing.T) {
	for _, s := range []string{"", "{", "{a", "{a{b}", "query", "query q", "query(", "query($v:T", "query($v:T)", "query@d", "{a(", "{a(x", "{a(x:", "{a(x:1", "{a(x:[", "{a(x:{y:1", "{...", "{...on", "{...on T", "{...f", "{a@", "{a:", "fragment", "fragment f", "fragment f on", "fragment f on T", "{a}query", "{a}fragment f"} {
		for _, behind := range []string{"", " ", "\n", "\r\n", ",,,", "#", "# {a}", "#é\n", "\ufeff", "\t \ufeff#x\n\n"} {
			isWrong(t, s+behind, len(s)+len(behind), api.ErrSyntax)
		}
	}
	full := "query q($v:[T!]!=[{x:1}]@d(x:\"a\"))@d{a:b(x:$v y:[1.5 null])@d{c...f@d...on T@d{e}...{g}}}fragment f on T@d{h}mutation{a}"
	l, _, _ := lex.Tokens(full)
	if _, _, e := isAsModel(t, full); e != api.OK {
		t.Error(e)
	}
	for _, x := range l {
		isAsModel(t, full[:x.End])
		isAsModel(t, full[:x.At]+full[x.End:])
		isAsModel(t, full[:x.End]+" "+full[x.At:])
		for _, y := range l {
			isAsModel(t, full[:x.At]+" "+full[y.At:y.End]+" "+full[x.End:])
		}
	}
}

// pieces are a token at least of each kind that the grammar tells apart; rare are those of which another one goes on alike.
const (
	pieces = "! $ & ( ) ... : = @ [ ] { | } a on query fragment 1 " + rare
	rare   = "mutation subscription null 1.5 \"a\""
)

// explore holds Parse against the model behind a beginning that may be a document's, with each piece behind it, and so on behind those that can follow.
func explore(t *testing.T, begin string, state modelState, left int) {
	t.Helper()
	isAsModel(t, begin)
	for _, piece := range strings.Fields(pieces) {
		l, _, _ := lex.Tokens(piece)
		next, e := modelFollow(state, modelKey(l[0]))
		switch {
		case e == api.OK && left > 1 && !slices.Contains(strings.Fields(rare), piece):
			explore(t, begin+piece+" ", next, left-1)
		case e == api.OK:
			isAsModel(t, begin+piece)
		default:
			if d, at, f := syntax.Parse(begin + piece + " "); at != len(begin) || f != e || len(d.Ops)+len(d.Frags) > 0 {
				t.Errorf("%q and %q: %v, %d, %d, not %d", begin, piece, d, at, f, e)
			}
		}
	}
}

func TestParseAll(t *testing.T) {
	for begin, left := range map[string]int{
		"": 6, "{a ": 5, "{a{b ": 5, "{a(": 5, "{a(b:": 5, "{a(b:[": 4, "{a(b:{": 5, "{a@b": 4, "{...": 5, "{...on ": 5, "{...f ": 4, "query": 5, "query q": 4, "query(": 6, "query($a:": 5, "query($a:[T": 4, "query($a:T=": 4, "query($a:T=[": 3, "query($a:T={b:": 3, "query($a:T@d": 4, "query($a:T@d(b:": 4, "query($a:T)": 4, "query@d": 4, "{a}": 5, "{a}fragment ": 6, "fragment f on T": 4, "fragment f on T@d(b:": 3, "query($a:T=1){a(b:": 3,
	} {
		state := modelFirst
		l, _, _ := lex.Tokens(begin)
		for _, x := range l {
			state, _ = modelFollow(state, modelKey(x))
		}
		explore(t, begin+" ", state, left)
	}
}

// madeDoc is a tree and a row of tokens that says it: operations and fragments in any order.
func madeDoc(m *samples.Trees) (api.Doc, []string) {
	var d api.Doc
	var w writer
	for range 1 + m.Pick(4) {
		if m.Pick(3) == 0 {
			x := m.Frag()
			d.Frags = append(d.Frags, x)
			w.frag(x)
			continue
		}
		x := m.Op()
		d.Ops = append(d.Ops, x)
		w.op(x, m.Pick(2) == 0)
	}
	return d, w.row
}

// spell is a row of tokens as a document, with what is ignored between them: sometimes nothing at all, where nothing is needed.
func spell(m *samples.Trees, row []string) string {
	ignored := []string{" ", "\n", "\r", ",", "\t", "\ufeff", "#{\"\n", "# é\r", " ,\r\n"}
	var b strings.Builder
	for i, x := range row {
		if i > 0 && (row[i-1][0] != 'p' && x[0] != 'p' || x == "p..." || m.Pick(3) > 0) {
			b.WriteString(ignored[m.Pick(len(ignored))])
		}
		if x[0] == 't' {
			b.WriteString(lex.Quote(x[1:]))
		} else {
			b.WriteString(x[1:])
		}
	}
	return b.String()
}

// made are n trees, each with two documents that say it.
func made(n int, use func(d api.Doc, s, again string)) {
	for _, x := range samples.Spread(n) {
		m := samples.NewTrees(x, 300)
		d, row := madeDoc(m)
		use(d, spell(m, row), spell(m, row))
	}
}

func TestParseMade(t *testing.T) {
	made(4000, func(d api.Doc, s, again string) {
		for _, x := range []string{s, again} {
			if got, at, e := syntax.Parse(x); !reflect.DeepEqual(got, d) || at != 0 || e != api.OK {
				t.Errorf("%.300q: %.300v, %d, %d, not %.300v", x, got, at, e, d)
			}
		}
	})
	made(300, func(d api.Doc, s, again string) { isAsModel(t, s) })
}

// P6.2

func TestNumber(t *testing.T) {
	for _, s := range []string{"0", "-0", "1", "-1", "10", "9007199254740993", strings.Repeat("9", 16384), "-" + strings.Repeat("9", 16383)} {
		if got := syntax.Number(s); got != api.TokInt {
			t.Errorf("%.50q: %d", s, got)
		}
	}
	for _, s := range []string{"0.0", "-0.5", "1e5", "1E5", "1e+5", "1e-5", "1.5e3", "-1.50E-03", "1e999", "1." + strings.Repeat("0", 16382)} {
		if got := syntax.Number(s); got != api.TokFloat {
			t.Errorf("%.50q: %d", s, got)
		}
	}
	for _, s := range []string{
		"", " ", "a", "on", "-", "+1", "01", "-01", "00", "1.", ".5", "1e", "1e+", "1a", "1_", "0x1", "1 ", " 1", "1,", ",1", "1\n", "\n1", "1#", "#\n1", "\ufeff1", "1\ufeff", "1 2", "1,2", "1-1", "1{", "{1", "{", "...", "$1", `"1"`, `""`, `"""1"""`, "1%", "%", "\xff", "1\xff", "1é", "true", "null", "e5", "1\x00", "--1", "1.5.5", "1e5e5", "1e5 ", " 1e5", "1e5\t", "NaN", "inf", "-inf",
		strings.Repeat("9", 16385), "-" + strings.Repeat("9", 16384), strings.Repeat(" ", 16384), strings.Repeat("1 ", 8192), strings.Repeat("1 ", 3000), strings.Repeat(" ", 16383) + "1",
	} {
		if got := syntax.Number(s); got != -1 {
			t.Errorf("%.50q: %d", s, got)
		}
	}
}

func TestName(t *testing.T) {
	for _, s := range []string{"a", "z", "A", "Z", "_", "__", "a1", "_1", "on", "query", "null", "true", "false", "fragment", "e5", "azAZ09_", strings.Repeat("a", 16384)} {
		if !syntax.Name(s) {
			t.Errorf("%.50q is a name", s)
		}
	}
	for _, s := range []string{
		"", " ", "a ", " a", "a,", ",a", "a\n", "\na", "a#", "#a", "#\na", "\ufeffa", "a\ufeff", "a b", "a,b", "1", "1a", "1.5", "-a", "a-", "a.b", "a...", "...a", "$a", "a!", "{", "a{", "...", "!", `"a"`, `"""a"""`, `""`, "é", "aé", "a\x00", "\xff", "a\xff", "%", "a%", "a'", "a\\u0041", "-",
		strings.Repeat("a", 16385), strings.Repeat("a ", 3000), strings.Repeat("a", 16384) + " ",
	} {
		if syntax.Name(s) {
			t.Errorf("%.50q is no name", s)
		}
	}
}

// What is a number, and what a name, is held against patterns of one token, over all short rows of the signs that matter.
func TestWordsAll(t *testing.T) {
	integer := regexp.MustCompile(`^-?(0|[1-9][0-9]*)$`)
	float := regexp.MustCompile(`^-?(0|[1-9][0-9]*)(\.[0-9]+([eE][+-]?[0-9]+)?|[eE][+-]?[0-9]+)$`)
	name := regexp.MustCompile(`^[_A-Za-z][_0-9A-Za-z]*$`)
	for s := range samples.Rows(5, "0", "1", "-", "+", ".", "e", "a", "_", " ", "#", "\n", "\"", "{", "\xff") {
		want := -1
		switch {
		case integer.MatchString(s):
			want = api.TokInt
		case float.MatchString(s):
			want = api.TokFloat
		}
		// A pattern's end may stand ahead of a last line's end.
		if strings.Contains(s, "\n") {
			want = -1
		}
		if got := syntax.Number(s); got != want {
			t.Errorf("Number of %q: %d, not %d", s, got, want)
		}
		if got := syntax.Name(s); got != (name.MatchString(s) && !strings.Contains(s, "\n")) {
			t.Errorf("Name of %q: %v", s, got)
		}
	}
}

// P6.3

// brokenAt is s with one of its bytes another one, dropped, or doubled.
func brokenAt(s string, x uint64) string {
	if s == "" {
		return string([]byte{byte(x)})
	}
	i := int(x >> 8 % uint64(len(s)))
	const signs = "{}()[]:=!@$.ao1\"#, \n\\\x00\xff"
	switch x % 4 {
	case 0:
		return s[:i] + s[i+1:]
	case 1:
		return s[:i] + s[i:i+1] + s[i:]
	case 2:
		return s[:i] + signs[x>>40%uint64(len(signs)):][:1] + s[i+1:]
	}
	return s[:i] + string([]byte{byte(x >> 40)}) + s[i+1:]
}

func TestParseBroken(t *testing.T) {
	numbers := samples.Spread(3000)
	made(3000, func(d api.Doc, s, again string) {
		broken := s
		for range 3 {
			broken = brokenAt(broken, numbers[0])
			isAsModel(t, broken)
			numbers[0] = numbers[0]*6364136223846793005 + 1442695040888963407
		}
		numbers = numbers[1:]
	})
	for _, x := range samples.Spread(20000) {
		isAsModel(t, string([]byte{byte(x), byte(x >> 8), byte(x >> 16), byte(x >> 24), byte(x >> 32)}))
	}
}

// What is ignored changes no tree, wherever it stands.
func TestParseIgnored(t *testing.T) {
	s := "query q($v:[T!]!=[{x:1}]@d(x:\"a\"))@d{a:b(x:$v y:[1.5 null])@d{c...f@d...on T@d{e}...{g}}}fragment f on T@d{h}mutation{a}"
	want, _, e := isAsModel(t, s)
	if e != api.OK {
		t.Fatal(e)
	}
	l, _, _ := lex.Tokens(s)
	for _, x := range []string{" ", "\t", "\n", "\r", "\r\n", ",", ",,", "\ufeff", "#\n", "#}{\"\r", "# é\n\n ,"} {
		all := ""
		for _, token := range l {
			is(t, s[:token.At]+x+s[token.At:], want)
			all += x + s[token.At:token.End]
		}
		is(t, all+x, want)
		is(t, s+x, want)
	}
	is(t, s+"#"+strings.Repeat("x", 16384-len(s)-1), want)
	isWrong(t, s+"#"+strings.Repeat("x", 16384-len(s)), 0, api.ErrLexLong)
}

// A document behind another one and a line's end is a document of both.
func TestParseBoth(t *testing.T) {
	var d api.Doc
	var s string
	made(500, func(next api.Doc, text, _ string) {
		for _, lineEnd := range []string{"\n", "\r", "\r\n"} {
			both := api.Doc{Ops: slices.Concat(d.Ops, next.Ops), Frags: slices.Concat(d.Frags, next.Frags)}
			got, at, e := syntax.Parse(s + lineEnd + text)
			if !reflect.DeepEqual(got, both) || at != 0 || e != api.OK {
				t.Errorf("%.300q and %.300q: %.300v, %d, %d", s, text, got, at, e)
			}
		}
		d, s = next, text
	})
	one := "{" + strings.Repeat("a ", 1022) + "}"
	if d, _, e := isAsModel(t, one+"\n"+one); len(d.Ops) != 2 || e != api.OK {
		t.Error(len(d.Ops), e)
	}
	isWrong(t, one+"\n"+one+"\n{a}", 2*len(one)+2, api.ErrLexMany)
	// Behind a comment without its line's end it would be none.
	is(t, "{a}#\n{b}", api.Doc{Ops: []api.Op{{Sels: []api.Sel{{Name: "a"}}}, {Sels: []api.Sel{{Name: "b"}}}}})
	is(t, "{a}#{b}", query(api.Sel{Name: "a"}))
}

// The largest documents end, too.
func TestParseLarge(t *testing.T) {
	for _, piece := range []string{"{a}", "{a(b:[", "[", "{", "{a{", "...", "query($a:[", "a ", "a:a ", "@a", "fragment f on T{a}", "{...{", "(", "\"\" ", "1,", "$a:", "!", "{a:", " ", "#\n", "\xff"} {
		for _, n := range []int{1, 2, 31, 32, 33, 500, 682, 683, 2048, 16384 / len(piece), 16384} {
			isAsModel(t, strings.Repeat(piece, n))
			isAsModel(t, "{a(b:"+strings.Repeat(piece, n))
		}
	}
	if d, _, e := isAsModel(t, "{"+strings.Repeat("a ", 2046)+"}"); e != api.OK || len(d.Ops[0].Sels) != 2046 {
		t.Error(e)
	}
}

// R4

// lists tells each list of a tree once, by its first element's place and how much room it has.
func lists(v reflect.Value, use func(first, size uintptr)) {
	switch v.Kind() {
	case reflect.Slice:
		use(v.Pointer(), uintptr(v.Cap())*v.Type().Elem().Size())
		for i := range v.Len() {
			lists(v.Index(i), use)
		}
	case reflect.Struct:
		for i := range v.NumField() {
			lists(v.Field(i), use)
		}
	}
}

// No two lists of one answer, nor of two answers, share memory, spare room too.
func TestParseMemory(t *testing.T) {
	s := "query q($v:[T!]!=[{x:1 y:[1 2 3]}]@d(x:\"a\" y:[])$w:T=[1 1 1])@d@e@f(x:1 y:2 z:3){a:b(x:$v y:[1.5 null{a:1 b:2 c:3}])@d{c...f@d...on T@d{e e e}...{g}}}fragment f on T@d{h i j}mutation{a}{b}fragment g on T{a}fragment h on T{a}"
	type room struct{ first, end uintptr }
	var rooms []room
	var kept []api.Doc
	for range 3 {
		d, _, _ := syntax.Parse(s)
		kept = append(kept, d)
		lists(reflect.ValueOf(d), func(first, size uintptr) {
			if size > 0 {
				rooms = append(rooms, room{first, first + size})
			}
		})
	}
	slices.SortFunc(rooms, func(a, b room) int { return cmp.Compare(a.first, b.first) })
	for i := range rooms[1:] {
		if rooms[i].end > rooms[i+1].first {
			t.Errorf("two lists share memory: %v, %v", rooms[i], rooms[i+1])
		}
	}
	if len(rooms) < 60 || !reflect.DeepEqual(kept[0], kept[1]) || !reflect.DeepEqual(kept[0], kept[2]) {
		t.Error(len(rooms), kept)
	}
}
