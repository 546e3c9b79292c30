package print_test

import (
	"slices"
	"strings"
	"testing"

	"rhizome/api"
	"rhizome/print"
	"rhizome/samples"
	"rhizome/syntax"
)

// isAsModel holds Check and Print of a tree against the model, and what Parse tells of its text against the tree.
func isAsModel(t *testing.T, d api.Doc) (string, api.Errno) {
	t.Helper()
	want, e, why := modelDoc(d)
	kept := copied(d)
	s, got := print.Print(d)
	if s != want || got != e {
		t.Errorf("Print of %.500v: %.300q, %d, not %.300q, %d: %v", d, s, got, want, e, why)
	}
	if check := print.Check(d); check != e {
		t.Errorf("Check of %.500v: %d, not %d: %v", d, check, e, why)
	}
	if !same(d, kept) {
		t.Errorf("%.500v: was changed to %.500v", kept, d)
	}
	if got == api.OK {
		isRead(t, s, d)
	}
	return s, got
}

// isRead holds a text against the tree that it is read as, and against what is printed again.
func isRead(t *testing.T, s string, d api.Doc) {
	t.Helper()
	read, at, e := syntax.Parse(s)
	if !same(read, d) || at != 0 || e != api.OK {
		t.Errorf("%.300q: read as %.500v, %d, %d, not %.500v", s, read, at, e, d)
	}
	if again, e := print.Print(read); again != s || e != api.OK {
		t.Errorf("%.300q: printed again %.300q, %d", s, again, e)
	}
}

// is holds Print of a tree against a text.
func is(t *testing.T, d api.Doc, want string) {
	t.Helper()
	if s, e := isAsModel(t, d); s != want || e != api.OK {
		t.Errorf("%.500v: %.300q, %d, not %.300q", d, s, e, want)
	}
}

// isWrong holds a tree against the error.
func isWrong(t *testing.T, d api.Doc) {
	t.Helper()
	if s, e := isAsModel(t, d); s != "" || e != api.ErrPrintForm {
		t.Errorf("%.500v: %.300q, %d", d, s, e)
	}
}

// isPrinted holds Print of what a document is read as against a text.
func isPrinted(t *testing.T, document, want string) {
	t.Helper()
	d, _, e := syntax.Parse(document)
	if e != api.OK {
		t.Errorf("%.300q: %d", document, e)
	}
	is(t, d, want)
}

func query(l ...api.Sel) api.Doc { return api.Doc{Ops: []api.Op{{Sels: l}}} }

// asked is a query of the field a with these variables.
func asked(l ...api.Var) api.Doc {
	return api.Doc{Ops: []api.Op{{Vars: l, Sels: []api.Sel{{Name: "a"}}}}}
}

// argued is a query of the field a with an argument of these values.
func argued(l ...api.Value) api.Doc {
	x := api.Sel{Name: "a"}
	for _, v := range l {
		x.Args = append(x.Args, api.Arg{Name: "b", Value: v})
	}
	return query(x)
}

func word(kind int, text string) api.Value { return api.Value{Kind: kind, Text: text} }

func list(l ...api.Value) api.Value { return api.Value{Kind: api.ValList, List: l} }

// object is one with these names, parted by blanks.
func object(names string, l ...api.Value) api.Value {
	return api.Value{Kind: api.ValObject, Names: strings.Fields(names), List: l}
}

// Things of each kind: nothing, what may be, and what may not.
var (
	one     = word(api.ValInt, "1")
	free    = word(api.ValVar, "v")
	someSel = []api.Sel{{Name: "f"}}
	allArgs = [][]api.Arg{
		nil, {}, {{Name: "x", Value: one}}, {{Name: "x"}, {Name: "on", Value: list()}}, {{Name: "x", Value: free}}, {{Name: "x", Value: list(one, list(free))}},
		{{}}, {{Name: "x y"}}, {{Name: "x", Value: word(api.ValEnum, "true")}}, {{Name: "x"}, {Name: "x", Value: api.Value{Kind: 10}}},
	}
	allDirectives = [][]api.Directive{
		nil, {}, {{Name: "d"}}, {{Name: "on", Args: []api.Arg{{Name: "x", Value: one}}}, {Name: "d"}}, {{Name: "d", Args: []api.Arg{{Name: "x", Value: free}}}},
		{{}}, {{Name: "d"}, {Name: "@d"}}, {{Name: "d", Args: []api.Arg{{Name: "", Value: one}}}}, {{Name: "d", Args: []api.Arg{{Name: "x", Value: one}, {Name: "x", Value: word(api.ValInt, "a")}}}},
	}
	allSels = [][]api.Sel{
		nil, {}, someSel, {{Name: "f"}, {Kind: api.SelSpread, Name: "g"}}, {{Kind: api.SelInline, Sels: someSel}},
		{{}}, {{Name: "f"}, {Kind: 3, Name: "f"}}, {{Name: "f", Sels: []api.Sel{{Name: "f", On: "T"}}}},
	}
	allVars = [][]api.Var{
		nil, {}, {{Name: "v", Type: api.Ref{Name: "T"}}}, {{Name: "v", Type: api.Ref{Name: "T"}}, {Name: "on", Type: api.Ref{Name: "on", Wraps: "[!"}, Has: true}},
		{{}}, {{Name: "v", Type: api.Ref{Name: "T"}, Has: true, Default: free}}, {{Name: "v", Type: api.Ref{Name: "T"}}, {Name: "v", Type: api.Ref{Name: "T"}, Default: one}},
	}
)

// P7.1: trees

func TestPrintExamples(t *testing.T) {
	isPrinted(t, "query{a:b(c:1,d:\"é\\n\"),...e}", "{ a : b ( c : 1 d : \"é\\u000a\" ) ... e }")
	isPrinted(t, "fragment e on T @x{f} query Q($a:[Int!]=[1]){g}", "query Q ( $ a : [ Int ! ] = [ 1 ] ) { g } fragment e on T @ x { f }")
	isWrong(t, api.Doc{})
	isWrong(t, query(api.Sel{Name: "a b"}))
	isWrong(t, argued(word(api.ValEnum, "true")))
}

// Each query of the document's examples, and each of the chapters' on documents.
func TestPrintRequests(t *testing.T) {
	isPrinted(t, "mutation{addT(input:[{a:5},{a:3}]){id}}", "mutation { addT ( input : [ { a : 5 } { a : 3 } ] ) { id } }")
	isPrinted(t, "{queryT(order:{asc:a}){id a}}", "{ queryT ( order : { asc : a } ) { id a } }")
	isPrinted(t, "{queryT(first:-1){a}}", "{ queryT ( first : -1 ) { a } }")
	isPrinted(t, "{a:b(c:[1,$d],e:{f:null}) @g{...h ...on I{j}}}", "{ a : b ( c : [ 1 $ d ] e : { f : null } ) @ g { ... h ... on I { j } } }")
	isPrinted(t, "query($a:[Int!]!=[]){a}", "query ( $ a : [ Int ! ] ! = [ ] ) { a }")
	isPrinted(t, "{a(b:-1.5e3,c:\"\\u0041\")}#x", "{ a ( b : -1.5e3 c : \"A\" ) }")
	isPrinted(t, "{a(b:\"\"\"\n  a\n    b\n\"\"\")}", "{ a ( b : \"a\\u000a  b\" ) }")
}

// A query without a name, variables and directives, and no other operation, is its set alone.
func TestPrintOps(t *testing.T) {
	sels := []api.Sel{{Name: "a"}}
	vars := []api.Var{{Name: "v", Type: api.Ref{Name: "T"}}}
	directives := []api.Directive{{Name: "d"}}
	is(t, api.Doc{Ops: []api.Op{{Sels: sels}}}, "{ a }")
	is(t, api.Doc{Ops: []api.Op{{Vars: []api.Var{}, Directives: []api.Directive{}, Sels: sels}}}, "{ a }")
	is(t, api.Doc{Ops: []api.Op{{Name: "n", Sels: sels}}}, "query n { a }")
	is(t, api.Doc{Ops: []api.Op{{Name: "query", Sels: sels}}}, "query query { a }")
	is(t, api.Doc{Ops: []api.Op{{Vars: vars, Sels: sels}}}, "query ( $ v : T ) { a }")
	is(t, api.Doc{Ops: []api.Op{{Directives: directives, Sels: sels}}}, "query @ d { a }")
	is(t, api.Doc{Ops: []api.Op{{Name: "n", Vars: vars, Directives: directives, Sels: sels}}}, "query n ( $ v : T ) @ d { a }")
	is(t, api.Doc{Ops: []api.Op{{Kind: api.OpMutation, Sels: sels}}}, "mutation { a }")
	is(t, api.Doc{Ops: []api.Op{{Kind: api.OpSubscription, Sels: sels}}}, "subscription { a }")
	is(t, api.Doc{Ops: []api.Op{{Kind: api.OpMutation, Name: "n", Vars: vars, Directives: directives, Sels: sels}}}, "mutation n ( $ v : T ) @ d { a }")
	is(t, api.Doc{Ops: []api.Op{{Kind: api.OpSubscription, Name: "on", Sels: sels}}}, "subscription on { a }")
	is(t, api.Doc{Ops: []api.Op{{Sels: sels}, {Sels: sels}, {Name: "n", Sels: sels}, {Sels: sels}}}, "{ a } { a } query n { a } { a }")
	for kind := range 3 {
		isWrong(t, api.Doc{Ops: []api.Op{{Kind: kind}}})
		isWrong(t, api.Doc{Ops: []api.Op{{Kind: kind, Sels: []api.Sel{}}}})
		isWrong(t, api.Doc{Ops: []api.Op{{Kind: kind, Name: "n m", Sels: sels}}})
		isWrong(t, api.Doc{Ops: []api.Op{{Sels: sels}, {Kind: kind, Name: "n"}}})
	}
	for _, kind := range []int{-1, 3, 4, 1 << 40, -1 << 63, 1<<63 - 1} {
		isWrong(t, api.Doc{Ops: []api.Op{{Kind: kind, Sels: sels}}})
		isWrong(t, api.Doc{Ops: []api.Op{{Kind: kind, Name: "n", Sels: sels}}})
	}
}

func TestPrintOpsAll(t *testing.T) {
	for kind := -1; kind < 5; kind++ {
		for _, name := range []string{"", "n", "on", "true", "n m", "é", " ", "{a}"} {
			for _, vars := range allVars {
				for _, directives := range allDirectives {
					for _, sels := range allSels {
						isAsModel(t, api.Doc{Ops: []api.Op{{Kind: kind, Name: name, Vars: vars, Directives: directives, Sels: sels}}})
					}
				}
			}
		}
	}
}

func TestPrintFrags(t *testing.T) {
	frag := func(name, on string) api.Doc {
		return api.Doc{Frags: []api.Frag{{Name: name, On: on, Sels: []api.Sel{{Name: "a"}}}}}
	}
	is(t, frag("f", "T"), "fragment f on T { a }")
	is(t, frag("f", "on"), "fragment f on on { a }")
	is(t, frag("fragment", "query"), "fragment fragment on query { a }")
	is(t, frag("On", "null"), "fragment On on null { a }")
	isWrong(t, frag("on", "T"))
	isWrong(t, frag("", "T"))
	isWrong(t, frag("f", ""))
	isWrong(t, frag("f ", "T"))
	isWrong(t, frag("f", "[T]"))
	isWrong(t, frag("f", "T!"))
	isWrong(t, api.Doc{Frags: []api.Frag{{Name: "f", On: "T"}}})
	isWrong(t, api.Doc{Frags: []api.Frag{{}}})
	for _, name := range []string{"", "f", "on", "true", "f g", "1"} {
		for _, on := range []string{"", "T", "on", "T!", "\"T\""} {
			for _, directives := range allDirectives {
				for _, sels := range allSels {
					isAsModel(t, api.Doc{Frags: []api.Frag{{Name: name, On: on, Directives: directives, Sels: sels}}})
				}
			}
		}
	}
}

// Operations stand ahead of fragments, each in order; one that is wrong makes all wrong, wherever it stands.
func TestPrintOrder(t *testing.T) {
	op := func(name string) api.Op { return api.Op{Name: name, Sels: []api.Sel{{Name: "a"}}} }
	frag := func(name string) api.Frag { return api.Frag{Name: name, On: "T", Sels: []api.Sel{{Name: "a"}}} }
	is(t, api.Doc{Ops: []api.Op{op("z"), op("y")}, Frags: []api.Frag{frag("x"), frag("w"), frag("x")}}, "query z { a } query y { a } fragment x on T { a } fragment w on T { a } fragment x on T { a }")
	b, a, d, c := "query b { a }", "query a { a }", "fragment d on T { a }", "fragment c on T { a }"
	for _, l := range [][]string{{b, a, d, c}, {b, d, a, c}, {b, d, c, a}, {d, b, a, c}, {d, b, c, a}, {d, c, b, a}} {
		isPrinted(t, strings.Join(l, "\n"), strings.Join([]string{b, a, d, c}, " "))
	}
	for i := range 3 {
		ops, frags := []api.Op{op("a"), op("b"), op("c")}, []api.Frag{frag("a"), frag("b"), frag("c")}
		ops[i].Sels = nil
		isWrong(t, api.Doc{Ops: ops})
		isWrong(t, api.Doc{Ops: ops, Frags: frags})
		ops[i], frags[i].Name = op("a"), "on"
		isWrong(t, api.Doc{Frags: frags})
		isWrong(t, api.Doc{Ops: ops, Frags: frags})
	}
}

func TestPrintSels(t *testing.T) {
	b := []api.Sel{{Name: "b"}}
	x := []api.Arg{{Name: "x", Value: one}, {Name: "on", Value: free}}
	d := []api.Directive{{Name: "d", Args: x}, {Name: "on"}}
	for s, sel := range map[string]api.Sel{
		"a":                             {Name: "a"},
		"on":                            {Name: "on"},
		"c : a":                         {Alias: "c", Name: "a"},
		"on : true":                     {Alias: "on", Name: "true"},
		"a ( x : 1 on : $ v )":          {Name: "a", Args: x},
		"a @ d ( x : 1 on : $ v ) @ on": {Name: "a", Directives: d},
		"a { b }":                       {Name: "a", Sels: b},
		"c : a ( x : 1 on : $ v ) @ d ( x : 1 on : $ v ) @ on { b }": {Alias: "c", Name: "a", Args: x, Directives: d, Sels: b},
		"... f":                                 {Kind: api.SelSpread, Name: "f"},
		"... f @ d ( x : 1 on : $ v ) @ on":     {Kind: api.SelSpread, Name: "f", Directives: d},
		"... query":                             {Kind: api.SelSpread, Name: "query"},
		"... { b }":                             {Kind: api.SelInline, Sels: b},
		"... on T { b }":                        {Kind: api.SelInline, On: "T", Sels: b},
		"... on on { b }":                       {Kind: api.SelInline, On: "on", Sels: b},
		"... @ d ( x : 1 on : $ v ) @ on { b }": {Kind: api.SelInline, Directives: d, Sels: b},
		"... on T @ d ( x : 1 on : $ v ) @ on { b }": {Kind: api.SelInline, On: "T", Directives: d, Sels: b},
	} {
		is(t, query(sel), "{ "+s+" }")
		is(t, query(sel, sel), "{ "+s+" "+s+" }")
		is(t, query(api.Sel{Name: "z"}, sel, api.Sel{Name: "z"}), "{ z "+s+" z }")
		is(t, query(api.Sel{Name: "z", Sels: []api.Sel{sel}}), "{ z { "+s+" } }")
		is(t, query(api.Sel{Kind: api.SelInline, Sels: []api.Sel{sel}}), "{ ... { "+s+" } }")
		is(t, api.Doc{Frags: []api.Frag{{Name: "f", On: "T", Sels: []api.Sel{sel}}}}, "fragment f on T { "+s+" }")
	}
}

func TestPrintSelsWrong(t *testing.T) {
	b := []api.Sel{{Name: "b"}}
	x := []api.Arg{{Name: "x", Value: one}}
	for _, sel := range []api.Sel{
		{}, {Alias: "c"}, {Name: "a", Alias: "c d"}, {Name: "a", Alias: ":"}, {Name: "a", On: "T"}, {Name: "a", On: "on"}, {Name: "1"}, {Name: "a "}, {Name: "\"a\""}, {Name: "a", Sels: []api.Sel{{}}},
		{Kind: api.SelSpread}, {Kind: api.SelSpread, Name: "on"}, {Kind: api.SelSpread, Name: "f", Alias: "c"}, {Kind: api.SelSpread, Name: "f", On: "T"}, {Kind: api.SelSpread, Name: "f", Args: x}, {Kind: api.SelSpread, Name: "f", Sels: b}, {Kind: api.SelSpread, On: "T"}, {Kind: api.SelSpread, Name: "f g"},
		{Kind: api.SelInline}, {Kind: api.SelInline, Sels: []api.Sel{}}, {Kind: api.SelInline, On: "T"}, {Kind: api.SelInline, Name: "f", Sels: b}, {Kind: api.SelInline, Alias: "c", Sels: b}, {Kind: api.SelInline, Args: x, Sels: b}, {Kind: api.SelInline, On: "[T]", Sels: b}, {Kind: api.SelInline, On: "T", Sels: []api.Sel{{}}},
		{Kind: 3, Name: "a"}, {Kind: -1, Name: "a"}, {Kind: 3}, {Kind: 3, Sels: b}, {Kind: -1 << 63, Name: "a"}, {Kind: 1 << 32, Name: "a"},
	} {
		isWrong(t, query(sel))
		isWrong(t, query(api.Sel{Name: "z"}, sel))
		isWrong(t, query(sel, api.Sel{Name: "z"}))
		// Behind a spread of `on` this would be read as an inline fragment's type and set.
		isWrong(t, query(sel, api.Sel{Name: "z", Directives: []api.Directive{{Name: "d"}}, Sels: b}))
		isWrong(t, query(api.Sel{Name: "z", Sels: []api.Sel{sel}}))
		isWrong(t, query(api.Sel{Kind: api.SelInline, Sels: []api.Sel{sel}}))
		isWrong(t, api.Doc{Frags: []api.Frag{{Name: "f", On: "T", Sels: []api.Sel{sel}}}})
	}
}

func TestPrintSelsAll(t *testing.T) {
	for kind := -1; kind < 5; kind++ {
		for _, alias := range []string{"", "c", "on", "c:"} {
			for _, name := range []string{"", "a", "on", "a b"} {
				for _, on := range []string{"", "T", "on", "T!"} {
					for _, args := range [][]api.Arg{allArgs[0], allArgs[1], allArgs[2], allArgs[4], allArgs[6]} {
						for _, directives := range [][]api.Directive{allDirectives[0], allDirectives[1], allDirectives[4], allDirectives[5]} {
							for _, sels := range [][]api.Sel{allSels[0], allSels[1], allSels[2], allSels[5]} {
								isAsModel(t, query(api.Sel{Kind: kind, Alias: alias, Name: name, On: on, Args: args, Directives: directives, Sels: sels}))
							}
						}
					}
				}
			}
		}
	}
}

// Arguments and directives, with all that may and may not be in them, wherever they stand.
func TestPrintArgs(t *testing.T) {
	for _, args := range allArgs {
		isAsModel(t, query(api.Sel{Name: "a", Args: args}))
		directives := []api.Directive{{Name: "d"}, {Name: "e", Args: args}}
		for _, d := range append(slices.Clone(allDirectives), directives) {
			isAsModel(t, query(api.Sel{Name: "a", Args: args, Directives: d}))
			isAsModel(t, query(api.Sel{Kind: api.SelSpread, Name: "f", Directives: d}))
			isAsModel(t, query(api.Sel{Kind: api.SelInline, Directives: d, Sels: someSel}))
			isAsModel(t, asked(api.Var{Name: "v", Type: api.Ref{Name: "T"}, Directives: d}))
			isAsModel(t, api.Doc{Ops: []api.Op{{Kind: api.OpMutation, Directives: d, Sels: someSel}}, Frags: []api.Frag{{Name: "f", On: "T", Directives: d, Sels: someSel}}})
		}
	}
	is(t, query(api.Sel{Name: "a", Args: []api.Arg{{Name: "x"}, {Name: "x"}}}), "{ a ( x : null x : null ) }")
	is(t, query(api.Sel{Name: "a", Directives: []api.Directive{{Name: "d"}, {Name: "d", Args: []api.Arg{}}}}), "{ a @ d @ d }")
	for _, name := range []string{"", " ", "x y", "x:", "1", "$x", "\"x\"", "é", "x\n", "@x", "..."} {
		isWrong(t, query(api.Sel{Name: "a", Args: []api.Arg{{Name: name}}}))
		isWrong(t, query(api.Sel{Name: "a", Args: []api.Arg{{Name: "x"}, {Name: name}}}))
		isWrong(t, query(api.Sel{Name: "a", Directives: []api.Directive{{Name: name}}}))
		isWrong(t, query(api.Sel{Name: "a", Directives: []api.Directive{{Name: "d"}, {Name: "d", Args: []api.Arg{{Name: name}}}}}))
	}
}

func TestPrintVars(t *testing.T) {
	ref := api.Ref{Name: "T"}
	d := []api.Directive{{Name: "d"}, {Name: "e", Args: []api.Arg{{Name: "x", Value: one}}}}
	is(t, asked(api.Var{Name: "v", Type: ref}), "query ( $ v : T ) { a }")
	is(t, asked(api.Var{Name: "v", Type: ref, Has: true}), "query ( $ v : T = null ) { a }")
	is(t, asked(api.Var{Name: "v", Type: ref, Has: true, Default: list(one)}), "query ( $ v : T = [ 1 ] ) { a }")
	is(t, asked(api.Var{Name: "v", Type: ref, Directives: d}), "query ( $ v : T @ d @ e ( x : 1 ) ) { a }")
	is(t, asked(api.Var{Name: "v", Type: ref, Has: true, Default: one, Directives: d}, api.Var{Name: "v", Type: ref}), "query ( $ v : T = 1 @ d @ e ( x : 1 ) $ v : T ) { a }")
	is(t, asked(api.Var{Name: "on", Type: api.Ref{Name: "null", Wraps: "![!"}}), "query ( $ on : [ null ! ] ! ) { a }")
	for _, wrong := range []api.Var{
		{}, {Name: "v"}, {Type: ref}, {Name: "$v", Type: ref}, {Name: "v w", Type: ref}, {Name: "v", Type: api.Ref{Name: "T!"}}, {Name: "v", Type: api.Ref{Name: "[T]"}}, {Name: "v", Type: api.Ref{Wraps: "["}},
		{Name: "v", Type: ref, Default: one}, {Name: "v", Type: ref, Default: api.Value{Kind: api.ValFalse}}, {Name: "v", Type: ref, Default: list()}, {Name: "v", Type: ref, Default: word(api.ValNull, "x")}, {Name: "v", Type: ref, Default: api.Value{List: []api.Value{{}}}}, {Name: "v", Type: ref, Default: api.Value{Names: []string{""}}},
		{Name: "v", Type: ref, Default: api.Value{Kind: -1}}, {Name: "v", Type: ref, Has: true, Default: api.Value{Kind: 10}}, {Name: "v", Type: ref, Has: true, Default: word(api.ValEnum, "null")}, {Name: "v", Type: ref, Has: true, Default: word(api.ValNull, "x")}, {Name: "v", Type: ref, Has: true, Default: free},
	} {
		isWrong(t, asked(wrong))
		isWrong(t, asked(api.Var{Name: "v", Type: ref}, wrong))
		isWrong(t, asked(wrong, api.Var{Name: "v", Type: ref}))
		isWrong(t, api.Doc{Ops: []api.Op{{Kind: api.OpSubscription, Name: "n", Vars: []api.Var{wrong}, Sels: someSel}}})
	}
	// An empty list is none, in the zero value, too.
	is(t, asked(api.Var{Name: "v", Type: ref, Default: api.Value{List: []api.Value{}, Names: []string{}}, Directives: []api.Directive{}}), "query ( $ v : T ) { a }")
}

func TestPrintVarsAll(t *testing.T) {
	values := []api.Value{{}, {List: []api.Value{}, Names: []string{}}, {Text: "x"}, {List: []api.Value{{}}}, {Names: []string{"x"}}, {Kind: api.ValFalse}, one, free, list(), list(free), object("x", one), object("x", list(free)), {Kind: 10}, {Kind: -1}}
	for _, name := range []string{"", "v", "on", "v w"} {
		for _, of := range []string{"", "T", "on", "T!"} {
			for _, wraps := range []string{"", "!", "![!", "!!"} {
				for _, has := range []bool{false, true} {
					for _, v := range values {
						for _, directives := range [][]api.Directive{allDirectives[0], allDirectives[3], allDirectives[4], allDirectives[5]} {
							isAsModel(t, asked(api.Var{Name: name, Type: api.Ref{Name: of, Wraps: wraps}, Has: has, Default: v, Directives: directives}))
						}
					}
				}
			}
		}
	}
}

func TestPrintTypes(t *testing.T) {
	for wraps, want := range map[string]string{
		"": "T", "!": "T !", "[": "[ T ]", "![": "[ T ! ]", "[!": "[ T ] !", "![!": "[ T ! ] !", "[[": "[ [ T ] ]", "[![": "[ [ T ] ! ]", "![[": "[ [ T ! ] ]", "[[!": "[ [ T ] ] !", "![![!": "[ [ T ! ] ! ] !", "[![[!": "[ [ [ T ] ! ] ] !",
	} {
		is(t, asked(api.Var{Name: "v", Type: api.Ref{Name: "T", Wraps: wraps}}), "query ( $ v : "+want+" ) { a }")
		is(t, asked(api.Var{Name: "v", Type: api.Ref{Name: "T", Wraps: wraps}, Has: true, Default: list()}), "query ( $ v : "+want+" = [ ] ) { a }")
	}
	for wraps := range samples.Rows(7, "!", "[") {
		isAsModel(t, asked(api.Var{Name: "v", Type: api.Ref{Name: "T", Wraps: wraps}}))
	}
	for wraps := range samples.Rows(4, "!", "[", "]", " ", "a", "\xff") {
		isAsModel(t, asked(api.Var{Name: "v", Type: api.Ref{Name: "T", Wraps: wraps}}))
	}
	for _, wraps := range []string{"!!", "[!!", "!![", "![!!", "!!!", "]", "[]", "! [", "!,", "T", "[T]", "é", "\x00", "[!\x00"} {
		isWrong(t, asked(api.Var{Name: "v", Type: api.Ref{Name: "T", Wraps: wraps}}))
	}
}

// What is named: any name, wherever there is one, but `on` of a fragment and a spread; nothing else.
func TestPrintNames(t *testing.T) {
	at := map[string]func(n string) api.Doc{
		"query N { f }":                 func(n string) api.Doc { return api.Doc{Ops: []api.Op{{Name: n, Sels: someSel}}} },
		"mutation N { f }":              func(n string) api.Doc { return api.Doc{Ops: []api.Op{{Kind: api.OpMutation, Name: n, Sels: someSel}}} },
		"fragment N on T { f }":         func(n string) api.Doc { return api.Doc{Frags: []api.Frag{{Name: n, On: "T", Sels: someSel}}} },
		"fragment f on N { f }":         func(n string) api.Doc { return api.Doc{Frags: []api.Frag{{Name: "f", On: n, Sels: someSel}}} },
		"query ( $ N : T ) { a }":       func(n string) api.Doc { return asked(api.Var{Name: n, Type: api.Ref{Name: "T"}}) },
		"query ( $ v : [ N ! ] ) { a }": func(n string) api.Doc { return asked(api.Var{Name: "v", Type: api.Ref{Name: n, Wraps: "!["}}) },
		"{ N }":                         func(n string) api.Doc { return query(api.Sel{Name: n}) },
		"{ N : a }":                     func(n string) api.Doc { return query(api.Sel{Alias: n, Name: "a"}) },
		"{ ... N }":                     func(n string) api.Doc { return query(api.Sel{Kind: api.SelSpread, Name: n}) },
		"{ ... on N { f } }":            func(n string) api.Doc { return query(api.Sel{Kind: api.SelInline, On: n, Sels: someSel}) },
		"{ a @ N }":                     func(n string) api.Doc { return query(api.Sel{Name: "a", Directives: []api.Directive{{Name: n}}}) },
		"{ a ( N : 1 ) }":               func(n string) api.Doc { return query(api.Sel{Name: "a", Args: []api.Arg{{Name: n, Value: one}}}) },
		"{ a ( b : $ N ) }":             func(n string) api.Doc { return argued(word(api.ValVar, n)) },
		"{ a ( b : N ) }":               func(n string) api.Doc { return argued(word(api.ValEnum, n)) },
		"{ a ( b : { N : 1 } ) }": func(n string) api.Doc {
			return argued(api.Value{Kind: api.ValObject, Names: []string{n}, List: []api.Value{one}})
		},
	}
	words := map[string]string{"fragment N on T { f }": "on", "{ ... N }": "on", "{ a ( b : N ) }": "true false null"}
	empty := "query N { f } mutation N { f } { N : a } { ... on N { f } }"
	for s, doc := range at {
		for _, n := range []string{"a", "_", "_1", "A9z", "on", "On", "query", "mutation", "subscription", "fragment", "type", "true", "false", "null", "True", "nulls", "a_b", strings.Repeat("n", 3000)} {
			if slices.Contains(strings.Fields(words[s]), n) {
				isWrong(t, doc(n))
			} else {
				is(t, doc(n), strings.ReplaceAll(s, "N", n))
			}
		}
		for _, n := range []string{" ", "a ", " a", "a b", "a,b", "a,", "1", "1a", "-a", "a-b", "a.b", "$a", "@a", "a:", "a!", "...", "{", "\"a\"", "\"\"", "é", "a\x00", "\xff", "#", "a#", "a\n", "\ufeffa", strings.Repeat("n", 16385)} {
			isWrong(t, doc(n))
		}
		if !strings.Contains(empty, s) {
			isWrong(t, doc(""))
		} else if _, e := isAsModel(t, doc("")); e != api.OK {
			t.Errorf("%s without a name: %d", s, e)
		}
	}
}
