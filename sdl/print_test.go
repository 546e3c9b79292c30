package sdl_test

import (
	"reflect"
	"slices"
	"strings"
	"testing"

	"rhizome/api"
	"rhizome/samples"
	"rhizome/sdl"
)

// copied is a schema in memory of its own, with room behind each list; what is empty is nil.
func copied(s api.Schema) api.Schema {
	x := api.Schema{Objects: roomy(s.Objects), Enums: roomy(s.Enums)}
	for i, o := range x.Objects {
		x.Objects[i].Fields = roomy(o.Fields)
	}
	for i, o := range x.Enums {
		x.Enums[i].Words = roomy(o.Words)
	}
	return x
}

func roomy[T any](l []T) []T {
	if len(l) == 0 {
		return nil
	}
	return append(make([]T, 0, len(l)+3), l...)
}

// isPrinted holds Print of a schema against the model, and what Parse tells of its text against the schema.
func isPrinted(t *testing.T, s api.Schema) (string, api.Errno) {
	t.Helper()
	want, e, why := modelPrint(s)
	kept := copied(s)
	text, got := sdl.Print(s)
	if text != want || got != e {
		t.Errorf("%.500v: %.300q, %d, not %.300q, %d: %s", s, text, got, want, e, why)
	}
	if !reflect.DeepEqual(copied(s), kept) {
		t.Errorf("%.500v: was changed to %.500v", kept, s)
	}
	if got == api.OK {
		isReadAgain(t, text, kept)
	}
	return text, got
}

// isReadAgain holds a text against the schema that it is read as, and against what is printed again.
func isReadAgain(t *testing.T, text string, want api.Schema) {
	t.Helper()
	read, at, e := sdl.Parse(text)
	if !reflect.DeepEqual(read, want) || at != 0 || e != api.OK {
		t.Errorf("%.300q: read as %.500v, %d, %d, not %.500v", text, read, at, e, want)
	}
	if again, e := sdl.Print(read); again != text || e != api.OK {
		t.Errorf("%.300q: printed again %.300q, %d", text, again, e)
	}
}

// says holds Print of a schema against a text.
func says(t *testing.T, s api.Schema, want string) {
	t.Helper()
	if text, e := isPrinted(t, s); text != want || e != api.OK {
		t.Errorf("%.500v: %.300q, %d, not %.300q", s, text, e, want)
	}
}

// mayNot holds Print of a schema against the error.
func mayNot(t *testing.T, s api.Schema) {
	t.Helper()
	if text, e := isPrinted(t, s); text != "" || e != api.ErrSdlForm {
		t.Errorf("%.500v: %.300q, %d", s, text, e)
	}
}

// Names and others that are none: what is printed of some of them would be tokens all the same.
var noNames = []string{"", " ", "a b", " a", "a ", "a,", ",a", "#a", "a#", "a\n", "\ufeffa", "1", "1a", "-1", "1.5", "a:U", "a:U b", "a-b", "é", "aé", "\xff", "a\xff", "\x00", "a\x00", "!", "a!", "[a]", "{", "}", "@", "@search", "@ search", "$a", "...", "\"a\"", "\"\"\"a\"\"\"", "}type U{a", "A B", strings.Repeat("a", 16385), strings.Repeat("a ", 10)}

var someNames = []string{"a", "_", "__", "T1", "type", "enum", "search", "hasInverse", "field", "true", "false", "null", "True", "id", "Query", "AddT", strings.Repeat("a", 100)}

var allWraps = []string{"", "!", "[", "[!", "![", "![!"}

var plain = api.Field{Name: "a", Type: api.Ref{Name: "U"}}

// P8.2

func TestPrintExamples(t *testing.T) {
	s, _, _ := sdl.Parse("enum E{A B} type T{a:Int!@search b:[T!]!@hasInverse(field:b)}")
	says(t, s, "type T { a : Int ! @ search b : [ T ! ] ! @ hasInverse ( field : b ) } enum E { A B }")
	says(t, wholeSchema, "type T { a : Int ! @ search b : [ T ! ] ! @ hasInverse ( field : b ) c : [ E ] @ search @ hasInverse ( field : c ) d : [ E ] ! @ search @ hasInverse ( field : d ) e : [ T ! ] } enum E { A B } enum F { C }")
}

func TestPrintEmpty(t *testing.T) {
	a, b := api.Object{Name: "T", Fields: []api.Field{plain}}, api.Enum{Name: "E", Words: []string{"A"}}
	says(t, api.Schema{Objects: []api.Object{a}}, "type T { a : U }")
	says(t, api.Schema{Enums: []api.Enum{b}}, "enum E { A }")
	says(t, api.Schema{Objects: []api.Object{a}, Enums: []api.Enum{}}, "type T { a : U }")
	says(t, api.Schema{Objects: []api.Object{}, Enums: []api.Enum{b}}, "enum E { A }")
	says(t, api.Schema{Objects: []api.Object{a, a}, Enums: []api.Enum{b, b}}, "type T { a : U } type T { a : U } enum E { A } enum E { A }")
	mayNot(t, api.Schema{})
	mayNot(t, api.Schema{Objects: []api.Object{}, Enums: []api.Enum{}})
	for _, object := range []api.Object{{}, {Name: "T"}, {Name: "T", Fields: []api.Field{}}, {Fields: []api.Field{plain}}, {Name: "T", Fields: []api.Field{{}}}} {
		mayNot(t, api.Schema{Objects: []api.Object{object}})
		mayNot(t, api.Schema{Objects: []api.Object{object, a}})
		mayNot(t, api.Schema{Objects: []api.Object{a, object}, Enums: []api.Enum{b}})
	}
	for _, enum := range []api.Enum{{}, {Name: "E"}, {Name: "E", Words: []string{}}, {Words: []string{"A"}}, {Name: "E", Words: []string{""}}} {
		mayNot(t, api.Schema{Enums: []api.Enum{enum}})
		mayNot(t, api.Schema{Enums: []api.Enum{enum, b}})
		mayNot(t, api.Schema{Objects: []api.Object{a}, Enums: []api.Enum{b, enum}})
	}
	// What is left off here would be made up for by what another one has too much.
	mayNot(t, api.Schema{Objects: []api.Object{{Name: "T { a : U } type S", Fields: []api.Field{plain}}}})
	mayNot(t, api.Schema{Enums: []api.Enum{{Name: "E { A } enum F", Words: []string{"A"}}}})
	mayNot(t, worded("A } enum F { B"))
	mayNot(t, typed(api.Field{Name: "a", Type: api.Ref{Name: "U @ search"}}))
	mayNot(t, typed(api.Field{Name: "a", Type: api.Ref{Name: "U !"}}))
	mayNot(t, typed(api.Field{Name: "a", Type: api.Ref{Name: "U"}, Inverse: "b ) @ search c : U @ hasInverse ( field : c"}))
}

// withName is a schema for each place at which a name may stand.
func withName(name string) map[string]api.Schema {
	field := func(f api.Field) api.Schema { return typed(plain, f, plain) }
	return map[string]api.Schema{
		"object":  {Objects: []api.Object{{Name: name, Fields: []api.Field{plain}}}},
		"enum":    {Enums: []api.Enum{{Name: name, Words: []string{"A"}}}},
		"word":    worded("A", name, "B"),
		"field":   field(api.Field{Name: name, Type: api.Ref{Name: "U"}}),
		"type":    field(api.Field{Name: "a", Type: api.Ref{Name: name}}),
		"wrapped": field(api.Field{Name: "a", Type: api.Ref{Name: name, Wraps: "![!"}, Search: true}),
		"inverse": field(api.Field{Name: "a", Type: api.Ref{Name: "U"}, Inverse: name}),
	}
}

func TestPrintNames(t *testing.T) {
	for _, n := range someNames {
		for place, s := range withName(n) {
			if _, e := isPrinted(t, s); (e == api.OK) == (place == "word" && (n == "true" || n == "false" || n == "null")) {
				t.Errorf("%s %q: %d", place, n, e)
			}
		}
	}
	for _, n := range noNames {
		for place, s := range withName(n) {
			if _, e := isPrinted(t, s); (e == api.OK) != (place == "inverse" && n == "") {
				t.Errorf("%s %q: %d", place, n, e)
			}
		}
	}
	for c := range 256 {
		for _, n := range []string{string([]byte{byte(c)}), string([]byte{'a', byte(c)}), string([]byte{byte(c), 'a'})} {
			for _, s := range withName(n) {
				isPrinted(t, s)
			}
		}
	}
}

func TestPrintWraps(t *testing.T) {
	for wraps, want := range map[string]string{"": "U", "!": "U !", "[": "[ U ]", "[!": "[ U ] !", "![": "[ U ! ]", "![!": "[ U ! ] !"} {
		says(t, typed(api.Field{Name: "a", Type: api.Ref{Name: "U", Wraps: wraps}}), "type T { a : "+want+" }")
		says(t, typed(api.Field{Name: "a", Type: api.Ref{Name: "U", Wraps: wraps}, Search: true}, plain), "type T { a : "+want+" @ search a : U }")
	}
	written := 0
	for wraps := range samples.Rows(6, "!", "[", "]", " ", "U") {
		if _, e := isPrinted(t, typed(plain, api.Field{Name: "a", Type: api.Ref{Name: "U", Wraps: wraps}})); e == api.OK {
			written++
		}
	}
	if written != len(allWraps) {
		t.Errorf("%d wraps may be", written)
	}
	for c := range 256 {
		for _, ahead := range allWraps {
			for _, behind := range allWraps {
				isPrinted(t, typed(api.Field{Name: "a", Type: api.Ref{Name: "U", Wraps: ahead + string([]byte{byte(c)}) + behind}}))
			}
		}
	}
}

// All fields of some names, wraps, directives, what may not be among them.
func TestPrintFields(t *testing.T) {
	for _, name := range []string{"a", "field", "", "a b", "a:U b"} {
		for _, kind := range []string{"U", "null", "", "[U]", "U!"} {
			for _, wraps := range append([]string{"!!", "[[", "!]", "[!!", "!![", " "}, allWraps...) {
				for _, search := range []bool{false, true} {
					for _, inverse := range []string{"", "b", "hasInverse", " ", "b )", "@"} {
						f := api.Field{Name: name, Type: api.Ref{Name: kind, Wraps: wraps}, Search: search, Inverse: inverse}
						isPrinted(t, typed(f))
						isPrinted(t, typed(plain, f, plain))
					}
				}
			}
		}
	}
	says(t, typed(api.Field{Name: "a", Type: api.Ref{Name: "U"}, Search: true, Inverse: "b"}), "type T { a : U @ search @ hasInverse ( field : b ) }")
	says(t, typed(api.Field{Name: "a", Type: api.Ref{Name: "U"}, Search: true}), "type T { a : U @ search }")
	says(t, typed(api.Field{Name: "a", Type: api.Ref{Name: "U"}, Inverse: "b"}), "type T { a : U @ hasInverse ( field : b ) }")
}

func TestPrintWords(t *testing.T) {
	pieces := []string{"A", "B", "true", "false", "null", "True", "", "A B", "enum"}
	for _, a := range pieces {
		isPrinted(t, worded(a))
		for _, b := range pieces {
			isPrinted(t, worded(a, b))
			for _, c := range pieces {
				isPrinted(t, worded(a, b, c))
				isPrinted(t, api.Schema{Enums: []api.Enum{{Name: a, Words: []string{b}}, {Name: "F", Words: []string{c}}}})
			}
		}
	}
	says(t, worded("A", "B", "A"), "enum E { A B A }")
	mayNot(t, worded("true"))
	mayNot(t, worded("A", "false"))
	mayNot(t, worded("null", "A"))
}

// Objects stand ahead of enums, each in order, whatever order the text had that was read.
func TestPrintOrder(t *testing.T) {
	for _, text := range []string{"type T{a:U}type S{a:U}enum F{A}enum E{A}", "enum F{A}type T{a:U}enum E{A}type S{a:U}", "enum F{A}enum E{A}type T{a:U}type S{a:U}"} {
		s, _, _ := sdl.Parse(text)
		says(t, s, "type T { a : U } type S { a : U } enum F { A } enum E { A }")
	}
}

// A text of 16384 bytes and of 2048 tokens may be; one byte, one token more may not.
func TestPrintLong(t *testing.T) {
	long := func(n int) string { return strings.Repeat("a", n) }
	for place, size := range map[string]int{"object": len("type  { a : U }"), "enum": len("enum  { A }"), "word": len("enum E { A  B }"), "field": len("type T { a : U  : U a : U }"), "type": len("type T { a : U a :  a : U }"), "wrapped": len("type T { a : U a : [  ! ] ! @ search a : U }"), "inverse": len("type T { a : U a : U @ hasInverse ( field :  ) a : U }")} {
		s := withName(long(16384 - size))[place]
		if text, e := isPrinted(t, s); len(text) != 16384 || e != api.OK {
			t.Errorf("%s: %d, %d", place, len(text), e)
		}
		mayNot(t, withName(long(16385 - size))[place])
		mayNot(t, withName(long(16384))[place])
	}
	words := slices.Repeat([]string{"A"}, 2045)
	if text, e := isPrinted(t, worded(words[:2044]...)); len(strings.Fields(text)) != 2048 || e != api.OK {
		t.Error(e)
	}
	mayNot(t, worded(words...))
	fields := slices.Repeat([]api.Field{plain}, 682)
	if text, e := isPrinted(t, typed(fields[:681]...)); len(strings.Fields(text)) != 2047 || e != api.OK {
		t.Error(e)
	}
	mayNot(t, typed(fields...))
	fields[0].Type.Wraps = "!"
	if text, e := isPrinted(t, typed(fields[:681]...)); len(strings.Fields(text)) != 2048 || e != api.OK {
		t.Error(e)
	}
	fields[680].Type.Wraps = "!"
	mayNot(t, typed(fields[:681]...))
	fields[680].Type.Wraps, fields[680].Search = "", true
	mayNot(t, typed(fields[:681]...))
}

// R1: all ends, however large.
func TestPrintLarge(t *testing.T) {
	const wide = 1 << 18
	long := strings.Repeat("a", 16000)
	mayNot(t, typed(slices.Repeat([]api.Field{plain}, wide)...))
	mayNot(t, worded(slices.Repeat([]string{"A"}, wide)...))
	mayNot(t, api.Schema{Objects: slices.Repeat([]api.Object{{Name: "T", Fields: []api.Field{plain}}}, wide)})
	mayNot(t, api.Schema{Enums: slices.Repeat([]api.Enum{{Name: "E", Words: []string{"A"}}}, wide)})
	mayNot(t, api.Schema{Objects: slices.Repeat([]api.Object{{Name: "T"}}, wide)})
	for _, wraps := range []string{"!", "[", "![", "]"} {
		mayNot(t, typed(api.Field{Name: "a", Type: api.Ref{Name: "U", Wraps: strings.Repeat(wraps, wide)}}))
	}
	for _, s := range withName(strings.Repeat("a", wide)) {
		mayNot(t, s)
	}
	// As a text it would be longer than any memory.
	words := slices.Repeat([]string{long}, wide)
	if text, e := sdl.Print(api.Schema{Enums: slices.Repeat([]api.Enum{{Name: "E", Words: words}}, wide)}); text != "" || e != api.ErrSdlForm {
		t.Errorf("%.100q, %d", text, e)
	}
}

// P8.3

func TestMade(t *testing.T) {
	written := 0
	for _, x := range samples.Spread(3000) {
		if _, e := isPrinted(t, samples.NewTrees(x, 300).Schema()); e == api.OK {
			written++
		}
	}
	if written < 2900 {
		t.Errorf("only %d schemas were written", written)
	}
}

// shuffled is a text of a schema's objects and enums, each in order, but those among these in any.
func shuffled(t *testing.T, m *samples.Trees, s api.Schema, ignored string) string {
	var pieces []string
	for len(s.Objects)+len(s.Enums) > 0 {
		var one api.Schema
		if len(s.Enums) == 0 || len(s.Objects) > 0 && m.Pick(2) == 0 {
			one.Objects, s.Objects = s.Objects[:1], s.Objects[1:]
		} else {
			one.Enums, s.Enums = s.Enums[:1], s.Enums[1:]
		}
		text, e := sdl.Print(one)
		if e != api.OK {
			t.Errorf("%.500v: %d", one, e)
		}
		pieces = append(pieces, text)
	}
	return ignored + strings.Join(pieces, ignored+"\n") + ignored
}

// What is parsed may be written, and that is parsed as it, whichever order the text had.
func TestReadAgain(t *testing.T) {
	apart := 0
	for i, x := range samples.Spread(1000) {
		m := samples.NewTrees(x, 200)
		s := m.Schema()
		text := shuffled(t, m, s, []string{"", " ", ",", "#}\n", "\ufeff"}[i%5])
		is(t, text, s)
		if strings.Index(text, "enum") < strings.LastIndex(text, "type") {
			apart++
		}
		if i := strings.Index(text, ") @"); i >= 0 {
			t.Errorf("%.300q: in another order at %d", text, i)
		}
		// The directives the other way round.
		for _, swapped := range []string{"@ search @ hasInverse ( field : a )", "@ search @ hasInverse ( field : search )"} {
			text = strings.ReplaceAll(text, swapped, strings.TrimPrefix(swapped, "@ search ")+" @ search")
		}
		is(t, text, s)
	}
	if apart < 100 {
		t.Errorf("only %d texts have an enum ahead of an object", apart)
	}
}

// What is parsed may be too long to be written.
func TestReadTooLong(t *testing.T) {
	for text, ok := range map[string]bool{
		"enum E{" + strings.Repeat("n", 16374-1) + "}":                       true,
		"enum E{" + strings.Repeat("n", 16374) + "}":                         false,
		"type T{" + strings.Repeat("nnnnnnnnn:nnnnnnnnn ", 681) + "}":        true,
		"type T{" + strings.Repeat("nnnnnnnnnn:nnnnnnnnnnn ", 681) + "}":     false,
		"type T{" + strings.Repeat("a:[U!]!@hasInverse(field:b)", 145) + "}": true,
	} {
		s, at, e := isParsed(t, text)
		if at != 0 || e != api.OK {
			t.Errorf("%.30q: %d, %d", text, at, e)
		}
		if _, e := isPrinted(t, s); (e == api.OK) != ok {
			t.Errorf("%.30q: %d", text, e)
		}
	}
}

// Schemas that are broken in one place.
func TestBroken(t *testing.T) {
	wrong, whole := 0, 0
	for _, x := range samples.Spread(4000) {
		m := samples.NewTrees(x, 60)
		s := m.Schema()
		for range 4 {
			if _, e := isPrinted(t, broken(m, s)); e == api.OK {
				whole++
			} else {
				wrong++
			}
		}
	}
	if wrong < 2000 || whole < 2000 {
		t.Errorf("%d are wrong, %d are not", wrong, whole)
	}
}

// broken is a schema with another thing in one place.
func broken(m *samples.Trees, s api.Schema) api.Schema {
	x := copied(s)
	words := []string{"", "a", "true", "null", "a b", "1", "!", "!!", "[", "![!", "]", "é", "\xff", " ", "type", "a,"}
	word := words[m.Pick(len(words))]
	if len(x.Objects) == 0 || len(x.Enums) > 0 && m.Pick(3) == 0 {
		e := &x.Enums[m.Pick(len(x.Enums))]
		switch m.Pick(4) {
		case 0:
			e.Name = word
		case 1:
			e.Words = nil
		default:
			e.Words[m.Pick(len(e.Words))] = word
		}
		return x
	}
	o := &x.Objects[m.Pick(len(x.Objects))]
	f := &o.Fields[m.Pick(len(o.Fields))]
	switch m.Pick(7) {
	case 0:
		o.Name = word
	case 1:
		f.Name = word
	case 2:
		f.Type.Name = word
	case 3:
		f.Type.Wraps = word
	case 4:
		f.Inverse = word
	case 5:
		f.Search = !f.Search
	default:
		o.Fields = o.Fields[:m.Pick(2)]
	}
	return x
}

// R4

// empty tells whether nothing stands in the room behind a list, and that there is some.
func empty[T any](l []T) bool {
	behind := reflect.ValueOf(l[len(l):cap(l)])
	for i := range behind.Len() {
		if !behind.Index(i).IsZero() {
			return false
		}
	}
	return behind.Len() > 0 || len(l) == 0
}

// What is handed in stays as it is, and the room behind it.
func TestPrintMemory(t *testing.T) {
	for _, x := range samples.Spread(300) {
		m := samples.NewTrees(x, 100)
		for _, s := range []api.Schema{copied(m.Schema()), copied(broken(m, m.Schema()))} {
			isPrinted(t, s)
			still := empty(s.Objects) && empty(s.Enums)
			for _, o := range s.Objects {
				still = still && empty(o.Fields)
			}
			for _, e := range s.Enums {
				still = still && empty(e.Words)
			}
			if !still {
				t.Errorf("%.500v: something stands behind it", s)
			}
		}
	}
}

// filled writes over a list and the room behind it.
func filled[T any](l []T, x T) {
	l = l[:cap(l)]
	for i := range l {
		l[i] = x
	}
}

// What is answered shares no memory with another answer, nor do two lists of one.
func TestParseMemory(t *testing.T) {
	text := strings.Repeat("type T{a:U b:U c:U}enum E{A B C}", 5)
	want, _, _ := sdl.Parse(text)
	got, _, _ := sdl.Parse(text)
	for i := range got.Objects {
		filled(got.Objects[i].Fields, api.Field{Name: "x"})
		filled(got.Enums[i].Words, "x")
		is(t, text, want)
		for j := i + 1; j < len(got.Objects); j++ {
			if !reflect.DeepEqual(got.Objects[j], want.Objects[j]) || !reflect.DeepEqual(got.Enums[j], want.Enums[j]) {
				t.Fatalf("lists %d and %d share memory", i, j)
			}
		}
	}
	filled(got.Objects, api.Object{})
	if got.Enums[0].Name != "E" {
		t.Error("objects and enums share memory")
	}
	filled(got.Enums, api.Enum{})
	is(t, text, want)
}
