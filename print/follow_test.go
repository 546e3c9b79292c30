package print_test

import (
	"reflect"
	"strings"
	"testing"

	"rhizome/api"
	"rhizome/print"
	"rhizome/samples"
	"rhizome/syntax"
)

// madeDoc is a tree of operations and fragments.
func madeDoc(m *samples.Trees) api.Doc {
	var d api.Doc
	for range 1 + m.Pick(4) {
		if m.Pick(3) == 0 {
			d.Frags = append(d.Frags, m.Frag())
		} else {
			d.Ops = append(d.Ops, m.Op())
		}
	}
	return d
}

// P7.2

// Parse of Print is the tree: isAsModel holds them against each other.
func TestMade(t *testing.T) {
	written := 0
	for _, x := range samples.Spread(3000) {
		m := samples.NewTrees(x, 300)
		if _, e := isAsModel(t, madeDoc(m)); e == api.OK {
			written++
		}
		if _, e := isValue(t, m.Value(6, false)); e != api.OK {
			t.Error(e)
		}
	}
	if written < 2900 {
		t.Errorf("only %d trees were written", written)
	}
}

// shuffled is a document of a tree's operations and fragments, each in order, but those among these in any.
func shuffled(t *testing.T, m *samples.Trees, d api.Doc, ignored string) string {
	var pieces []string
	for len(d.Ops)+len(d.Frags) > 0 {
		var one api.Doc
		if len(d.Frags) == 0 || len(d.Ops) > 0 && m.Pick(2) == 0 {
			one.Ops, d.Ops = d.Ops[:1], d.Ops[1:]
		} else {
			one.Frags, d.Frags = d.Frags[:1], d.Frags[1:]
		}
		s, e := print.Print(one)
		if e != api.OK {
			t.Errorf("%.500v: %d", one, e)
		}
		pieces = append(pieces, s)
	}
	return ignored + strings.Join(pieces, ignored+"\n") + ignored
}

// Print of what Parse tells is a text of which Parse tells the same, whichever order the document has.
func TestReadAgain(t *testing.T) {
	apart := 0
	for i, x := range samples.Spread(1000) {
		m := samples.NewTrees(x, 200)
		d := api.Doc{Ops: []api.Op{m.Op(), m.Op()}, Frags: []api.Frag{m.Frag(), m.Frag()}}
		document := shuffled(t, m, d, []string{"", " ", ",", "#}\n", "\ufeff"}[i%5])
		read, _, e := syntax.Parse(document)
		if !same(read, d) || e != api.OK {
			t.Errorf("%.300q: %.500v, %d", document, read, e)
		}
		if strings.Index(document, "fragment") < strings.LastIndex(document, "query") {
			apart++
		}
		isAsModel(t, read)
	}
	if apart < 100 {
		t.Errorf("only %d documents have a fragment ahead of an operation", apart)
	}
}

// Documents as they are written by hand, with what is ignored, block strings and escapes in them.
func TestReadByHand(t *testing.T) {
	for document, want := range map[string]string{
		"{a}": "{ a }", "query{a}": "{ a }", "query\n{ # x\n a,\r\nb }": "{ a b }", "\ufeff{a}": "{ a }", "mutation{a}query{b}": "mutation { a } { b }",
		"{a(x:\"\\u0041\\n\\/\\\"\")}": "{ a ( x : \"A\\u000a/\\\"\" ) }", "{a(x:\"\\ud83d\\ude00\")}": "{ a ( x : \"\\ud83d\\ude00\" ) }", "{a(x:\"\"\"\n   \"x\"\n    y\r\n   \"\"\")}": "{ a ( x : \"\\\"x\\\"\\u000a y\" ) }", "{a(x:\"\"\"\\\"\"\"\"\"\")}": "{ a ( x : \"\\\"\\\"\\\"\" ) }", "{a(x:\"\"\"\"\"\")}": "{ a ( x : \"\" ) }", "{a(x:\"\\u0000\\u007f\\uFEFF\")}": "{ a ( x : \"\\u0000\\u007f\ufeff\" ) }",
		"{a(x:[1,2,,3],y:{a:1,b:2})}": "{ a ( x : [ 1 2 3 ] y : { a : 1 b : 2 } ) }", "{a:b:c}": "", "fragment f on T{a}{b}fragment g on T{c}mutation{d}": "{ b } mutation { d } fragment f on T { a } fragment g on T { c }",
		"query q($v:[T!]!=[{x:1}]@d(x:\"a\"))@d{a:b(x:$v y:[1.5 null])@d{c...f@d...on T@d{e}...{g}}}": "query q ( $ v : [ T ! ] ! = [ { x : 1 } ] @ d ( x : \"a\" ) ) @ d { a : b ( x : $ v y : [ 1.5 null ] ) @ d { c ... f @ d ... on T @ d { e } ... { g } } }",
	} {
		if want == "" {
			d, _, _ := syntax.Parse(document)
			isWrong(t, d)
		} else {
			isPrinted(t, document, want)
		}
	}
}

// What is read may be too long to be printed: by one byte, or since its texts are written longer.
func TestReadTooLong(t *testing.T) {
	for document, ok := range map[string]bool{
		"{" + strings.Repeat("a", 16380) + "}":                                                   true,
		"{" + strings.Repeat("a", 16381) + "}":                                                   false,
		"{a(x:\"\"\"" + strings.Repeat("a\n", 2000) + "a\"\"\")}":                                true,
		"{a(x:\"\"\"" + strings.Repeat("a\n", 3000) + "a\"\"\")}":                                false,
		"{" + strings.Repeat("nnnnnn:nnnnnn ", 682) + "}":                                        true,
		"{" + strings.Repeat(strings.Repeat("n", 11)+":"+strings.Repeat("n", 11)+" ", 682) + "}": false,
	} {
		d, _, e := syntax.Parse(document)
		if e != api.OK {
			t.Errorf("%.30q: %d", document, e)
		}
		if _, e := isAsModel(t, d); (e == api.OK) != ok {
			t.Errorf("%.30q: %d", document, e)
		}
	}
}

// Trees that are broken in one place

// places are those of a tree at which it may be changed.
func places(v reflect.Value) []reflect.Value {
	var l []reflect.Value
	switch v.Kind() {
	case reflect.Struct:
		for i := range v.NumField() {
			l = append(l, places(v.Field(i))...)
		}
	case reflect.Slice:
		l = append(l, v)
		for i := range v.Len() {
			l = append(l, places(v.Index(i))...)
		}
	default:
		l = append(l, v)
	}
	return l
}

// breakPlace makes a place of a tree another one.
func breakPlace(m *samples.Trees, v reflect.Value) {
	switch v.Kind() {
	case reflect.Bool:
		v.SetBool(!v.Bool())
	case reflect.Int:
		v.SetInt(int64(m.Pick(12) - 1))
	case reflect.String:
		l := []string{"", "a", "on", "true", "null", "a b", "1", "1.5", "!", "[", "!!", "![!", "é", "\xff", "\U00010000", " "}
		v.SetString(l[m.Pick(len(l))])
	case reflect.Slice:
		zero := reflect.Zero(v.Type().Elem())
		switch n := v.Len(); {
		case n == 0 || m.Pick(4) == 0:
			v.Set(reflect.Append(v, zero))
		case m.Pick(3) == 0:
			v.SetZero()
		case m.Pick(2) == 0:
			v.Set(v.Slice(0, n-1))
		default:
			v.Set(reflect.Append(v, v.Index(0)))
		}
	}
}

func TestBroken(t *testing.T) {
	wrong, whole := 0, 0
	for _, x := range samples.Spread(4000) {
		m := samples.NewTrees(x, 60)
		d := madeDoc(m)
		for range 4 {
			broken := copied(d)
			l := places(reflect.ValueOf(&broken).Elem())
			breakPlace(m, l[m.Pick(len(l))])
			if _, e := isAsModel(t, broken); e != api.OK {
				wrong++
			} else {
				whole++
			}
		}
	}
	for _, x := range samples.Spread(3000) {
		m := samples.NewTrees(x, 60)
		v := m.Value(5, false)
		l := places(reflect.ValueOf(&v).Elem())
		breakPlace(m, l[m.Pick(len(l))])
		isValue(t, v)
	}
	if wrong < 2000 || whole < 2000 {
		t.Errorf("%d are wrong, %d are not", wrong, whole)
	}
}

// R1: all ends, however large

// endsWrong holds trees that are too large for the model against the error.
func endsWrong(t *testing.T, d api.Doc) {
	t.Helper()
	if s, e := print.Print(d); s != "" || e != api.ErrPrintForm || print.Check(d) != api.ErrPrintForm {
		t.Errorf("%.100q, %d", s, e)
	}
}

func TestLarge(t *testing.T) {
	const deep, wide = 1 << 16, 1 << 18
	lists, doubled, objects := one, one, one
	sel, inline := api.Sel{Name: "a"}, api.Sel{Name: "a"}
	for range deep {
		lists, objects = list(lists), object("x", objects)
		// Two that are the same list: as a tree it has no end that could be waited for.
		doubled = list(doubled, doubled)
		sel, inline = api.Sel{Name: "a", Sels: []api.Sel{sel}}, api.Sel{Kind: api.SelInline, Sels: []api.Sel{inline}}
	}
	for _, v := range []api.Value{lists, doubled, objects, list(repeated(wide, one)...), word(api.ValText, strings.Repeat("\n", wide)), word(api.ValEnum, strings.Repeat("a", wide)), word(api.ValInt, strings.Repeat("1", wide)), {Kind: api.ValObject, Names: repeated(wide, "x"), List: repeated(wide, doubled)}} {
		if s, e := print.Value(v); s != "" || e != api.ErrPrintForm {
			t.Errorf("%.100q, %d", s, e)
		}
		endsWrong(t, argued(v))
		endsWrong(t, asked(api.Var{Name: "v", Type: api.Ref{Name: "T"}, Has: true, Default: v}))
		endsWrong(t, asked(api.Var{Name: "v", Type: api.Ref{Name: "T"}, Default: v}))
	}
	endsWrong(t, query(sel))
	endsWrong(t, query(inline))
	endsWrong(t, query(repeated(wide, sel)...))
	for _, wraps := range []string{"[", "!", "![", "]"} {
		endsWrong(t, asked(api.Var{Name: "v", Type: api.Ref{Name: "T", Wraps: strings.Repeat(wraps, wide)}}))
	}
	endsWrong(t, asked(repeated(wide, api.Var{Name: "v", Type: api.Ref{Name: "T"}})...))
	endsWrong(t, api.Doc{Ops: repeated(wide, api.Op{Sels: someSel})})
	endsWrong(t, api.Doc{Frags: repeated(wide, api.Frag{Name: "f", On: "T", Sels: someSel})})
	endsWrong(t, api.Doc{Ops: []api.Op{{Directives: repeated(wide, api.Directive{Name: "d"}), Sels: someSel}}})
}

// R4: what is handed in stays as it is, the room behind it, too

// roomy gives each list of a tree room behind it.
func roomy(v reflect.Value) {
	switch v.Kind() {
	case reflect.Slice:
		l := reflect.MakeSlice(v.Type(), v.Len(), v.Len()+3)
		reflect.Copy(l, v)
		v.Set(l)
		for i := range v.Len() {
			roomy(v.Index(i))
		}
	case reflect.Struct:
		for i := range v.NumField() {
			roomy(v.Field(i))
		}
	}
}

// room tells how much room is behind the lists of a tree, and whether nothing stands there.
func room(v reflect.Value) (int, bool) {
	size, empty := 0, true
	for _, x := range places(v) {
		if x.Kind() != reflect.Slice {
			continue
		}
		for i := x.Len(); i < x.Cap(); i++ {
			size++
			empty = empty && x.Slice(0, x.Cap()).Index(i).IsZero()
		}
	}
	return size, empty
}

func TestMemory(t *testing.T) {
	for _, x := range samples.Spread(200) {
		m := samples.NewTrees(x, 100)
		d := madeDoc(m)
		v := reflect.ValueOf(&d).Elem()
		roomy(v)
		isAsModel(t, d)
		if size, empty := room(v); size < 3*4 || !empty {
			t.Errorf("%.500v: %d behind its lists, %v", d, size, empty)
		}
	}
}
