package sdl_test

import (
	"reflect"
	"strings"
	"testing"

	"rhizome/api"
	"rhizome/lex"
	"rhizome/samples"
	"rhizome/sdl"
)

// isParsed holds Parse of s against the model.
func isParsed(t *testing.T, s string) (api.Schema, int, api.Errno) {
	t.Helper()
	x, at, e := sdl.Parse(s)
	want, place, error := modelParse(s)
	if !reflect.DeepEqual(x, want) || at != place || e != error {
		t.Errorf("%.300q: %+v, %d, %d, not %+v, %d, %d", s, x, at, e, want, place, error)
	}
	return x, at, e
}

// is holds Parse of s against a schema.
func is(t *testing.T, s string, want api.Schema) {
	t.Helper()
	if x, at, e := isParsed(t, s); !reflect.DeepEqual(x, want) || at != 0 || e != api.OK {
		t.Errorf("%.300q: %+v, %d, %d, not %+v", s, x, at, e, want)
	}
}

// isWrong holds Parse of s against an error and its place.
func isWrong(t *testing.T, s string, place int, want api.Errno) {
	t.Helper()
	if x, at, e := isParsed(t, s); !reflect.DeepEqual(x, api.Schema{}) || at != place || e != want {
		t.Errorf("%.300q: %+v, %d, %d, not %d, %d", s, x, at, e, place, want)
	}
}

// isWrongAt is isWrong of a text in which what can't follow has a byte 0 ahead of it.
func isWrongAt(t *testing.T, marked string) {
	t.Helper()
	isWrong(t, strings.ReplaceAll(marked, "\x00", ""), strings.Index(marked, "\x00"), api.ErrSdlText)
}

// typed is a schema of one object T with these fields.
func typed(l ...api.Field) api.Schema {
	return api.Schema{Objects: []api.Object{{Name: "T", Fields: l}}}
}

// worded is a schema of one enum E with these words.
func worded(l ...string) api.Schema {
	return api.Schema{Enums: []api.Enum{{Name: "E", Words: l}}}
}

// whole is a text that has all that the grammar has, and wholeSchema its schema.
const whole = "enum E{A B} type T{a:Int!@search b:[T!]!@hasInverse(field:b) c:[E]@search@hasInverse(field:c) d:[E]!@hasInverse(field:d)@search e:[T!]}enum F{C}"

var wholeSchema = api.Schema{
	Objects: []api.Object{{Name: "T", Fields: []api.Field{
		{Name: "a", Type: api.Ref{Name: "Int", Wraps: "!"}, Search: true},
		{Name: "b", Type: api.Ref{Name: "T", Wraps: "![!"}, Inverse: "b"},
		{Name: "c", Type: api.Ref{Name: "E", Wraps: "["}, Search: true, Inverse: "c"},
		{Name: "d", Type: api.Ref{Name: "E", Wraps: "[!"}, Search: true, Inverse: "d"},
		{Name: "e", Type: api.Ref{Name: "T", Wraps: "!["}},
	}}},
	Enums: []api.Enum{{Name: "E", Words: []string{"A", "B"}}, {Name: "F", Words: []string{"C"}}},
}

// anyToken are tokens of all kinds, among them all that the grammar has.
var anyToken = []string{"{", "}", "[", "]", "(", ")", ":", "!", "@", "$", "&", "=", "|", "...", "type", "enum", "search", "hasInverse", "field", "true", "false", "null", "a", "input", "Search", "1", "1.5", `"type"`, `"{"`, `""`, `"""a"""`}

// cut is the tokens of a text, as they are written.
func cut(t *testing.T, s string) []string {
	t.Helper()
	l, _, e := lex.Tokens(s)
	if e != api.OK {
		t.Fatalf("%q: %d", s, e)
	}
	var pieces []string
	for _, x := range l {
		pieces = append(pieces, s[x.At:x.End])
	}
	return pieces
}

// P8.1

func TestParseExamples(t *testing.T) {
	is(t, "enum E{A B} type T{a:Int!@search b:[T!]!@hasInverse(field:b)}", api.Schema{
		Objects: []api.Object{{Name: "T", Fields: []api.Field{
			{Name: "a", Type: api.Ref{Name: "Int", Wraps: "!"}, Search: true},
			{Name: "b", Type: api.Ref{Name: "T", Wraps: "![!"}, Inverse: "b"},
		}}},
		Enums: []api.Enum{{Name: "E", Words: []string{"A", "B"}}},
	})
	isWrong(t, "", 0, api.ErrSdlText)
	isWrong(t, "type T{}", 7, api.ErrSdlText)
	isWrong(t, "enum E{true}", 7, api.ErrSdlText)
	isWrong(t, "type T{a:Int@search@search}", 20, api.ErrSdlText)
	isWrong(t, "type T{a:[[Int]]}", 10, api.ErrSdlText)
	// The document's own, of the whole.
	is(t, "type T{a:Int!@search b:[T!]!@hasInverse(field:b)}", typed(
		api.Field{Name: "a", Type: api.Ref{Name: "Int", Wraps: "!"}, Search: true},
		api.Field{Name: "b", Type: api.Ref{Name: "T", Wraps: "![!"}, Inverse: "b"},
	))
	is(t, whole, wholeSchema)
}

func TestParseNothing(t *testing.T) {
	for _, s := range []string{"", " ", ",,,", "\n\r\n", "# type T{a:Int}", "\ufeff", "#\n#"} {
		isWrong(t, s, len(s), api.ErrSdlText)
	}
}

func TestParseTypes(t *testing.T) {
	field := func(name, kind string) api.Field { return api.Field{Name: name, Type: api.Ref{Name: kind}} }
	is(t, "type T{a:U}", typed(field("a", "U")))
	is(t, "type T{a:U b:V}", typed(field("a", "U"), field("b", "V")))
	is(t, "type T{a:U a:U a:V}", typed(field("a", "U"), field("a", "U"), field("a", "V")))
	for _, s := range []string{
		"\x00", "\x00{", "\x00}", "\x00:", "\x00!", "\x00[T]{a:U}", "\x00@search", "\x00(", "\x00\"T\"{a:U}", " \x001{a:U}", "\x00$T{a:U}", "\x00&T{a:U}",
		" T\x00", " T \x00U{a:U}", " T\x00}", " T\x00:", " T\x00@search{a:U}", " T \x00implements V{a:U}", " T\x00!{a:U}", " T\x00=U", " T\x00(a:U)", " T\x00[a:U]", " T\x00\"{\"a:U}", " T \x00type U{a:U}", " T\x00&U{a:U}",
		" T{\x00}", " T{\x00", " T{\x00{", " T{\x00:", " T{\x00!", " T{\x00@search}", " T{\x00\"a\":U}", " T{\x00\"about a\"a:U}", " T{\x001:U}", " T{\x00[", " T{\x00(", " T{\x00$a:U}", " T{\x00...",
		" T{a\x00", " T{a\x00}", " T{a \x00b}", " T{a \x00U}", " T{a\x00=U}", " T{a\x00!:U}", " T{a\x00@search:U}", " T{a\x00(x:U):U}", " T{a\x00\":\"U}", " T{a\x00{", " T{a\x00[",
		" T{a:\x00", " T{a:\x00}", " T{a:\x00:U}", " T{a:\x00!}", " T{a:\x00@search}", " T{a:\x00\"U\"}", " T{a:\x001}", " T{a:\x00$U}", " T{a:\x00{", " T{a:\x00(",
		" T{a:U\x00", " T{a:U\x00{", " T{a:U b\x00}", " T{a:U\x00:b}", " T{a:U\x00=1}", " T{a:U\x00|V}", " T{a:U\x00&V}", " T{a:U\x00(", " T{a:U\x00)", " T{a:U\x00[", " T{a:U\x00...", " T{a:U\x00$b}", " T{a:U\x00\"b\"", " T{a:U \x001}", " T{a:U b:\x00}", " T{a:U type \x00U{",
		" T{a:U}\x00}", " T{a:U}\x00{", " T{a:U}\x00@search", " T{a:U}\x00!", " T{a:U}\x00:", " T{a:U}\x00a", " T{a:U}\x00\"type\"", " T{a:U}type\x00",
	} {
		isWrongAt(t, "type"+s)
		isWrongAt(t, "enum E{A}type"+s)
		isWrongAt(t, "type S{s:[S!]!@search}type"+s)
	}
}

func TestParseEnums(t *testing.T) {
	is(t, "enum E{A}", worded("A"))
	is(t, "enum E{A B}", worded("A", "B"))
	is(t, "enum E{A,B,A}", worded("A", "B", "A"))
	is(t, "enum E{True FALSE Null nulls _ enum type}", worded("True", "FALSE", "Null", "nulls", "_", "enum", "type"))
	for _, s := range []string{
		"\x00", "\x00{", "\x00}", "\x00:", "\x00@search", "\x00\"E\"{A}", " \x001{A}", "\x00[",
		" E\x00", " E \x00F{A}", " E\x00}", " E\x00:", " E\x00@search{A}", " E\x00=A", " E\x00!{A}", " E\x00\"{\"A}", " E\x00(A)", " E\x00[A]", " E \x00enum F{A}",
		" E{\x00}", " E{\x00", " E{\x00{", " E{\x00:", " E{\x00!", " E{\x00@search}", " E{\x00\"A\"}", " E{\x001}", " E{\x00\"about A\"A}", " E{\x00[", " E{\x00(", " E{\x00$A}",
		" E{\x00true}", " E{\x00false}", " E{\x00null}", " E{A \x00true}", " E{A \x00false B}", " E{A B \x00null}", " E{\x00true", " E{A \x00null", " E{\x00\"true\"}",
		" E{A\x00", " E{A\x00{", " E{A\x00:B}", " E{A\x00|B}", " E{A\x00=1}", " E{A\x00@search}", " E{A\x00!}", " E{A\x00[", " E{A\x00]", " E{A\x00(", " E{A\x00)", " E{A\x00\"B\"}", " E{A \x001}", " E{A\x00...",
		" E{A}\x00}", " E{A}\x00{", " E{A}\x00A", " E{A}\x00@search", " E{A}\x00\"enum\"", " E{A}enum\x00",
	} {
		isWrongAt(t, "enum"+s)
		isWrongAt(t, "type T{a:U}enum"+s)
		isWrongAt(t, "enum true{A}enum"+s)
	}
}

func TestParseKinds(t *testing.T) {
	for s, wraps := range map[string]string{"U": "", "U!": "!", "[U]": "[", "[U]!": "[!", "[U!]": "![", "[U!]!": "![!", "[ U ! ] !": "![!"} {
		a := api.Field{Name: "a", Type: api.Ref{Name: "U", Wraps: wraps}}
		b := api.Field{Name: "b", Type: a.Type, Search: true, Inverse: "b"}
		is(t, "type T{a:"+s+"}", typed(a))
		is(t, "type T{a:"+s+" b:"+s+"@search@hasInverse(field:b)}", typed(a, b))
	}
	for _, s := range []string{
		"U!\x00!", "[U]!\x00!", "[U!\x00!]", "[U!]!\x00!", "\x00!U", "\x00!", "\x00]", "[\x00]", "[\x00!]", "[\x00", "[\x00}", "[U\x00", "[U\x00}", "[U!\x00", "[U!\x00}", "[U]\x00", "[U]!\x00", "U!\x00", "U\x00]", "U!\x00]", "[U]\x00]", "[U]!\x00]", "[\x00[U]]", "[\x00[", "[U\x00[", "U\x00[", "U!\x00[", "[U]\x00[", "[U \x00V]", "[U! \x00V]", "[U\x00:", "[U\x00@search]", "[U!\x00@search]", "[\x00@search U]", "[\x001]", "[\x00\"U\"]", "[U\x00\"]\"", "[U\x00\"!\"]", "U\x00\"!\"}", "\x00\"[\"U]", "\x00{U}", "\x00(U)", "[\x00{U}]", "[\x00$U]", "[\x00...", "[U\x00)", "[U\x00(", "\x00&U",
	} {
		isWrongAt(t, "type T{a:"+s)
		isWrongAt(t, "type T{z:[U!]!@search a:"+s)
	}
}

// All rows of directives, of both kinds and of none, and of what is left off in them.
func TestParseDirectives(t *testing.T) {
	ref := api.Ref{Name: "U"}
	is(t, "type T{a:U@search}", typed(api.Field{Name: "a", Type: ref, Search: true}))
	is(t, "type T{a:U@hasInverse(field:b)}", typed(api.Field{Name: "a", Type: ref, Inverse: "b"}))
	both := api.Field{Name: "a", Type: ref, Search: true, Inverse: "b"}
	is(t, "type T{a:U@search@hasInverse(field:b)}", typed(both))
	is(t, "type T{a:U@hasInverse(field:b)@search}", typed(both))
	// Each field, and each object, begins anew.
	is(t, "type T{a:U@hasInverse(field:b)@search a:U@search@hasInverse(field:b)a:U}type T{a:U@search@hasInverse(field:b)}", api.Schema{Objects: []api.Object{{Name: "T", Fields: []api.Field{both, both, {Name: "a", Type: ref}}}, {Name: "T", Fields: []api.Field{both}}}})
	const inverse = "@hasInverse(field:b)"
	for _, s := range []string{
		"@search@\x00search}", inverse + "@\x00hasInverse(field:b)}", inverse + "@\x00hasInverse(field:c)}", "@search" + inverse + "\x00@search}", "@search" + inverse + "\x00" + inverse, "@search" + inverse + "\x00@x}", "@search" + inverse + "\x00@", inverse + "@search\x00@search}", inverse + "@search\x00" + inverse, inverse + "@search\x00@",
		"@\x00x}", "@\x00Search}", "@\x00searches}", "@\x00hasinverse(field:b)}", "@\x00field}", "@\x00type}", "@\x00", "@\x00}", "@\x00@search}", "@\x00\"search\"}", "@\x00\"hasInverse\"(field:b)}", "@\x001}", "@\x00(", "@\x00:", "@\x00!", "\x00\"@\"search}", "@search@\x00x}", inverse + "@\x00x}",
		"@search\x00(", "@search\x00()", "@search\x00(by:[hash])}", "@search\x00!", "@search\x00:", "@search\x00]", "@search\x00", "@search\x00=", "@search@\x00", "@search@\x00}", inverse + "\x00", inverse + "\x00(field:b)}", inverse + "\x00!", inverse + "\x00)",
		"@hasInverse\x00", "@hasInverse\x00}", "@hasInverse\x00@search}", "@hasInverse \x00field:b}", "@hasInverse \x00b:U}", "@hasInverse\x00:b}", "@hasInverse\x00{field:b}}", "@hasInverse\x00[field:b]}", "@hasInverse\x00\"(\"field:b)}", "@hasInverse(\x00", "@hasInverse(\x00)}", "@hasInverse(\x00b)}", "@hasInverse(\x00Field:b)}", "@hasInverse(\x00fields:b)}", "@hasInverse(\x00\"field\":b)}", "@hasInverse(\x00:b)}", "@hasInverse(\x00search:b)}", "@hasInverse(\x00(field:b))}",
		"@hasInverse(field\x00", "@hasInverse(field\x00)}", "@hasInverse(field \x00b)}", "@hasInverse(field\x00=b)}", "@hasInverse(field\x00\":\"b)}", "@hasInverse(field:\x00", "@hasInverse(field:\x00)}", "@hasInverse(field:\x00:b)}", "@hasInverse(field:\x00\"b\")}", "@hasInverse(field:\x001)}", "@hasInverse(field:\x00$b)}", "@hasInverse(field:\x00[b])}", "@hasInverse(field:b\x00", "@hasInverse(field:b\x00}", "@hasInverse(field:b \x00c)}", "@hasInverse(field:b,\x00field:c)}", "@hasInverse(field:b\x00:c)}", "@hasInverse(field:b\x00!)}", "@hasInverse(field:b\x00\")\"}", "@hasInverse(field:b\x00]", "@hasInverse(field:b\x00@search)}",
	} {
		isWrongAt(t, "type T{a:U"+s)
		isWrongAt(t, "type T{a:[U!]!"+s)
		isWrongAt(t, "type T{z:U"+inverse+"@search a:U!"+s)
	}
	for s := range samples.Rows(4, "@search", inverse, "@", "@x", "search", "hasInverse", "(field:", "b", ")") {
		isParsed(t, "type T{a:U"+s+"}")
		isParsed(t, "type T{a:U "+s)
	}
}

// Any name may stand wherever a name may, but three as an enum's words.
func TestParseNames(t *testing.T) {
	for _, n := range []string{"type", "enum", "search", "hasInverse", "field", "true", "false", "null", "input", "Int", "__a", "_", "a1", "id", "Query", strings.Repeat("n", 2000)} {
		is(t, strings.ReplaceAll("type N{N:N N:[N!]!@search@hasInverse(field:N)N:N!}", "N", n), api.Schema{Objects: []api.Object{{Name: n, Fields: []api.Field{
			{Name: n, Type: api.Ref{Name: n}}, {Name: n, Type: api.Ref{Name: n, Wraps: "![!"}, Search: true, Inverse: n}, {Name: n, Type: api.Ref{Name: n, Wraps: "!"}},
		}}}})
		if n == "true" || n == "false" || n == "null" {
			isWrongAt(t, strings.ReplaceAll("enum N{\x00N}", "N", n))
			is(t, "enum "+n+"{A}", api.Schema{Enums: []api.Enum{{Name: n, Words: []string{"A"}}}})
			continue
		}
		is(t, strings.ReplaceAll("enum N{N N}", "N", n), api.Schema{Enums: []api.Enum{{Name: n, Words: []string{n, n}}}})
	}
	for _, n := range []string{"a", "Type", "types", "ENUM", "input", "interface", "union", "scalar", "schema", "extend", "directive", "query", "search", "hasInverse", "field", "true", "null"} {
		isWrongAt(t, "\x00"+n+" T{a:U}")
		isWrongAt(t, "type T{a:U}\x00"+n+" T{a:U}")
		isWrongAt(t, "enum E{A}\x00"+n+" T{a:U}")
	}
}

// Objects and enums come in any order, and keep their own.
func TestParseOrder(t *testing.T) {
	object := func(name string) api.Object {
		return api.Object{Name: name, Fields: []api.Field{{Name: "a", Type: api.Ref{Name: "U"}}}}
	}
	enum := func(name string) api.Enum { return api.Enum{Name: name, Words: []string{"A"}} }
	want := api.Schema{Objects: []api.Object{object("T"), object("S")}, Enums: []api.Enum{enum("F"), enum("E")}}
	a, b, c, d := "type T{a:U}", "type S{a:U}", "enum F{A}", "enum E{A}"
	for _, l := range [][]string{{a, b, c, d}, {a, c, b, d}, {a, c, d, b}, {c, a, b, d}, {c, a, d, b}, {c, d, a, b}} {
		is(t, strings.Join(l, ""), want)
		is(t, strings.Join(l, "\n,"), want)
	}
	// It need not be a schema that may be: names may come twice, and name nothing.
	is(t, a+a+a, api.Schema{Objects: []api.Object{object("T"), object("T"), object("T")}})
	is(t, d+d, api.Schema{Enums: []api.Enum{enum("E"), enum("E")}})
}

// A schema that ends too early is wrong at its end, wherever that is, and whatever is ignored there.
func TestParseEarly(t *testing.T) {
	l, _, _ := lex.Tokens(whole)
	ends := 0
	for _, x := range l {
		s := whole[:x.End]
		for _, behind := range []string{"", " ", ",\n", "#}\n", "# }", "\ufeff"} {
			if x, at, e := isParsed(t, s+behind); e == api.OK {
				if at != 0 || !strings.HasSuffix(s, "}") {
					t.Errorf("%q: %+v, %d", s, x, at)
				}
				ends++
			} else if at != len(s+behind) || e != api.ErrSdlText {
				t.Errorf("%q: %d, %d", s+behind, at, e)
			}
		}
	}
	if ends != 6*3 {
		t.Errorf("%d ends are one of a schema", ends)
	}
}

// At each token of a schema: another one in its place, one more, and it left out.
func TestParseChanged(t *testing.T) {
	l := cut(t, whole)
	for i := range l {
		ahead, behind := strings.Join(l[:i], " "), strings.Join(l[i+1:], " ")
		isParsed(t, ahead+" "+behind)
		for _, x := range anyToken {
			isParsed(t, ahead+" "+x+" "+behind)
			isParsed(t, ahead+" "+x+" "+l[i]+" "+behind)
			isParsed(t, ahead+" "+x)
		}
		for j := i + 1; j < len(l); j++ {
			isParsed(t, ahead+" "+strings.Join(l[j:], " "))
		}
	}
}

// A text that says a punctuator or a name is none, wherever it stands.
func TestParseTexts(t *testing.T) {
	l := cut(t, whole)
	for i, x := range l {
		ahead, behind := strings.Join(l[:i], " "), strings.Join(l[i+1:], " ")
		for _, quoted := range []string{lex.Quote(x), `"""` + x + `"""`} {
			isWrong(t, ahead+" "+quoted+" "+behind, len(ahead)+1, api.ErrSdlText)
			isWrong(t, ahead+" "+quoted, len(ahead)+1, api.ErrSdlText)
			isWrong(t, ahead+" "+quoted+" "+x+" "+behind, len(ahead)+1, api.ErrSdlText)
		}
	}
	isWrong(t, whole+`""`, len(whole), api.ErrSdlText)
	isWrong(t, `""`+whole, 0, api.ErrSdlText)
	isWrong(t, whole+` "type T{a:U}"`, len(whole)+1, api.ErrSdlText)
}

// All short rows of tokens behind each beginning of a schema.
func TestParseRows(t *testing.T) {
	pieces := []string{"{", "}", "[", "]", "(", ")", ":", "!", "@", "type ", "enum ", "search ", "hasInverse ", "field ", "null ", "a ", `"" `, "1 "}
	for _, ahead := range []string{"", "type ", "type T", "type T{", "type T{a", "type T{a:", "type T{a:[", "type T{a:[U", "type T{a:[U!", "type T{a:[U]", "type T{a:U", "type T{a:U@", "type T{a:U@hasInverse", "type T{a:U@hasInverse(field:b", "type T{a:U@search", "type T{a:U@search@hasInverse(", "enum E", "enum E{", "enum E{A", "enum E{A}", "type T{a:U}"} {
		for s := range samples.Rows(3, pieces...) {
			isParsed(t, ahead+" "+s)
		}
	}
	for s := range samples.Rows(7, "type ", "a ", "{", ":", "}") {
		isParsed(t, s)
	}
	for s := range samples.Rows(7, "enum ", "true ", "{", "}") {
		isParsed(t, s)
	}
	for s := range samples.Rows(7, "[", "U ", "!", "]", ":") {
		isParsed(t, "type T{a:"+s+"}")
	}
}

// Whatever may not be a token is told first, wherever the grammar is broken.
func TestParseLexErrors(t *testing.T) {
	isWrong(t, "type %", 5, api.ErrLexChar)
	isWrong(t, "%", 0, api.ErrLexChar)
	isWrong(t, "type T{a:U} ..", 12, api.ErrLexChar)
	isWrong(t, "type T{a:U}#\x00", 12, api.ErrLexChar)
	isWrong(t, "type T{a:U}\xff", 11, api.ErrLexChar)
	isWrong(t, "} } é", 4, api.ErrLexChar)
	isWrong(t, "type T{a:01}", 9, api.ErrLexNumber)
	isWrong(t, "type T{a:1U}", 9, api.ErrLexNumber)
	isWrong(t, "} -", 2, api.ErrLexNumber)
	isWrong(t, "type T{a:U} \"", 12, api.ErrLexText)
	isWrong(t, "} \"\\x\"", 2, api.ErrLexText)
	isWrong(t, "} \"\"\"", 2, api.ErrLexText)
	for i := range whole {
		isParsed(t, whole[:i]+"%"+whole[i:])
		isParsed(t, whole[:i]+"\""+whole[i:])
		isParsed(t, whole[:i]+"0"+whole[i:])
		isParsed(t, whole[:i])
	}
}

// A text may be just as long as lex.Tokens takes it, and of just as many tokens.
func TestParseLong(t *testing.T) {
	const most = 16384
	name := strings.Repeat("n", most-len("enum {A}"))
	is(t, "enum "+name+"{A}", api.Schema{Enums: []api.Enum{{Name: name, Words: []string{"A"}}}})
	isWrong(t, "enum n"+name+"{A}", 0, api.ErrLexLong)
	isWrong(t, "enum "+name+"{A}\n", 0, api.ErrLexLong)
	isWrong(t, "enum "+name+"{A ", most, api.ErrSdlText)
	isWrong(t, strings.Repeat(" ", most), most, api.ErrSdlText)
	isWrong(t, strings.Repeat(" ", most+1), 0, api.ErrLexLong)
	words := func(n int) string { return "enum E{" + strings.Repeat("A ", n) + "}" }
	if x, _, e := isParsed(t, words(2044)); len(x.Enums) != 1 || len(x.Enums[0].Words) != 2044 || e != api.OK {
		t.Error(len(x.Enums), e)
	}
	isWrong(t, words(2045), len(words(2045))-1, api.ErrLexMany)
	isWrong(t, words(2044)+"}", len(words(2044)), api.ErrLexMany)
	isWrong(t, words(2043)+"}", len(words(2043)), api.ErrSdlText)
	if x, _, e := isParsed(t, "type T{"+strings.Repeat("a:U ", 681)+"}"); len(x.Objects) != 1 || len(x.Objects[0].Fields) != 681 || e != api.OK {
		t.Error(len(x.Objects), e)
	}
	if x, _, e := isParsed(t, strings.Repeat("enum E{A}", 409)); len(x.Enums) != 409 || e != api.OK {
		t.Error(len(x.Enums), e)
	}
}

// What is ignored, between any two tokens, changes no schema.
func TestParseIgnored(t *testing.T) {
	l := cut(t, whole)
	for _, s := range []string{" ", ",", "\t", "\n", "\r\n", "\ufeff", "#\n", "# type T{a:U}\r", " , # }\n,"} {
		is(t, s+strings.Join(l, s)+s, wholeSchema)
	}
	is(t, whole+"#", wholeSchema)
	is(t, whole+"#}", wholeSchema)
}

// Other bytes than those of a schema: all ends, and as the model has it.
func TestParseAnything(t *testing.T) {
	pieces := append(cut(t, whole), anyToken...)
	for _, x := range samples.Spread(3000) {
		m := samples.NewTrees(x, 0)
		var b strings.Builder
		for range m.Pick(30) {
			b.WriteString(pieces[m.Pick(len(pieces))] + []string{"", " ", "\n"}[m.Pick(3)])
		}
		isParsed(t, b.String())
		bytes := []byte(whole)
		for range 1 + m.Pick(3) {
			bytes[m.Pick(len(bytes))] = byte(m.Pick(256))
		}
		isParsed(t, string(bytes))
	}
}
