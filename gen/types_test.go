package gen_test

import (
	"reflect"
	"slices"
	"strconv"
	"strings"
	"testing"

	"rhizome/api"
	"rhizome/gen"
	"rhizome/samples"
	"rhizome/schema"
	"rhizome/sdl"
)

// roomy is a list in memory of its own, with room behind it; what is empty is nil.
func roomy[T any](l []T) []T {
	if len(l) == 0 {
		return nil
	}
	return append(make([]T, 0, len(l)+3), l...)
}

// copied is a schema in memory of its own.
func copied(s api.Schema) api.Schema {
	x := api.Schema{Objects: roomy(s.Objects), Enums: roomy(s.Enums)}
	for i, o := range x.Objects {
		x.Objects[i].Fields = roomy(o.Fields)
	}
	for i, o := range x.Enums {
		x.Enums[i].Words = roomy(o.Words)
	}
	return x
}

// copiedDefs are definitions in memory of their own.
func copiedDefs(l []api.Def) []api.Def {
	x := roomy(l)
	for i, d := range x {
		x[i].Words, x[i].Outs, x[i].Ins = roomy(d.Words), roomy(d.Outs), roomy(d.Ins)
		for j, o := range x[i].Outs {
			x[i].Outs[j].Args = roomy(o.Args)
		}
	}
	return x
}

// read is the schema of a text.
func read(t *testing.T, text string) api.Schema {
	t.Helper()
	s, at, e := sdl.Parse(text)
	if e != api.OK {
		t.Fatalf("%q: %d at %d", text, e, at)
	}
	return s
}

// isDefs holds definitions against others, one by one, so that a test tells the one that is not right.
func isDefs(t *testing.T, got, want []api.Def) {
	t.Helper()
	got, want = copiedDefs(got), copiedDefs(want)
	for i := range min(len(got), len(want)) {
		if !reflect.DeepEqual(got[i], want[i]) {
			t.Errorf("definition %d:\n%v, not\n%v", i, got[i], want[i])
		}
	}
	if len(got) != len(want) {
		t.Errorf("%d definitions, not %d", len(got), len(want))
	}
}

// areTypes holds Types of a schema that may be against the model, and against P10.2.
func areTypes(t *testing.T, s api.Schema) []api.Def {
	t.Helper()
	kept := copied(s)
	l, e := gen.Types(s)
	if e != api.OK {
		t.Errorf("%.500v: %d", s, e)
		return nil
	}
	if !reflect.DeepEqual(copied(s), kept) {
		t.Errorf("%.500v: was changed to %.500v", kept, s)
	}
	isDefs(t, l, modelTypes(s))
	areSound(t, l)
	return l
}

// are holds Types of a text's schema against lines of definitions.
func are(t *testing.T, text, lines string) {
	t.Helper()
	isDefs(t, areTypes(t, read(t, text)), modelDefs(lines))
}

// has holds one definition of Types of a text's schema against a line.
func has(t *testing.T, text, line string) {
	t.Helper()
	l := areTypes(t, read(t, text))
	want := modelDef(line)
	at := gen.Find(l, want.Name)
	if at < 0 {
		t.Fatalf("%q: there is no %q", text, want.Name)
	}
	isDefs(t, l[at:at+1], []api.Def{want})
}

// areSound holds P10.2 of definitions.
func areSound(t *testing.T, l []api.Def) {
	t.Helper()
	at := map[string]int{}
	for i, d := range l {
		if _, twice := at[d.Name]; twice {
			t.Errorf("%q twice", d.Name)
		}
		at[d.Name] = i
	}
	is := func(where string, r api.Ref, not int) {
		i, ok := at[r.Name]
		if !ok || l[i].Kind == not {
			t.Errorf("%s: %v", where, r)
		}
	}
	for _, d := range l {
		for _, x := range d.Outs {
			is(d.Name+"."+x.Name, x.Type, api.DefInput)
			for _, y := range x.Args {
				is(d.Name+"."+x.Name+"("+y.Name+")", y.Type, api.DefObject)
			}
		}
		for _, x := range d.Ins {
			is(d.Name+"."+x.Name, x.Type, api.DefObject)
		}
		if d.Kind != api.DefEnum && len(d.Words) > 0 || d.Kind != api.DefObject && len(d.Outs) > 0 || d.Kind != api.DefInput && len(d.Ins) > 0 {
			t.Errorf("%q has what its kind has not: %v", d.Name, d)
		}
	}
}

// P10.1, Types

func TestTypesExample(t *testing.T) {
	are(t, "enum E{A} type T{a:Int! e:E b:[T!]!}", `scalar ID
		scalar Int
		scalar Float
		scalar String
		scalar Boolean
		enum E:A
		object T:id ID!;a Int!;e E;b [T!]!,filter TFilter,order TOrder,first Int,offset Int
		enum TOrderable:id;a;e
		input TOrder:asc TOrderable;desc TOrderable;then TOrder
		input TFilter:and [TFilter!];or [TFilter!];not TFilter;id [ID!];a IntFilter;e EFilter
		input AddT:a Int!;e E;b [ID!]
		input PatchT:a Int;e E;b [ID!]
		input IntFilter:eq Int;lt Int;le Int;gt Int;ge Int;in [Int!]
		input FloatFilter:eq Float;lt Float;le Float;gt Float;ge Float;in [Float!]
		input StringFilter:eq String;lt String;le String;gt String;ge String;in [String!];begins String
		input BooleanFilter:eq Boolean
		input EFilter:eq E;in [E!]
		object Query:getT T,id ID!;queryT [T!]!,filter TFilter,order TOrder,first Int,offset Int
		object Mutation:addT [T!]!,input [AddT!]!;updateT [T!]!,filter TFilter!,set PatchT!;deleteT Int!,filter TFilter!`)
}

// The types as api has them: the model's reader is held against values that are written out.
func TestTypesRefs(t *testing.T) {
	l := areTypes(t, read(t, "type T{a:Int! b:[T!]! c:T d:String}"))
	want := []api.Def{{Name: "T", Kind: api.DefObject, Outs: []api.Out{
		{Name: "id", Type: api.Ref{Name: "ID", Wraps: "!"}},
		{Name: "a", Type: api.Ref{Name: "Int", Wraps: "!"}},
		{Name: "b", Type: api.Ref{Name: "T", Wraps: "![!"}, Args: []api.In{
			{Name: "filter", Type: api.Ref{Name: "TFilter"}},
			{Name: "order", Type: api.Ref{Name: "TOrder"}},
			{Name: "first", Type: api.Ref{Name: "Int"}},
			{Name: "offset", Type: api.Ref{Name: "Int"}},
		}},
		{Name: "c", Type: api.Ref{Name: "T"}},
		{Name: "d", Type: api.Ref{Name: "String"}},
	}}}
	isDefs(t, l[5:6], want)
	want = []api.Def{{Name: "TFilter", Kind: api.DefInput, Ins: []api.In{
		{Name: "and", Type: api.Ref{Name: "TFilter", Wraps: "!["}},
		{Name: "or", Type: api.Ref{Name: "TFilter", Wraps: "!["}},
		{Name: "not", Type: api.Ref{Name: "TFilter"}},
		{Name: "id", Type: api.Ref{Name: "ID", Wraps: "!["}},
		{Name: "a", Type: api.Ref{Name: "IntFilter"}},
		{Name: "d", Type: api.Ref{Name: "StringFilter"}},
	}}, {Name: "AddT", Kind: api.DefInput, Ins: []api.In{
		{Name: "a", Type: api.Ref{Name: "Int", Wraps: "!"}},
		{Name: "b", Type: api.Ref{Name: "ID", Wraps: "!["}},
		{Name: "c", Type: api.Ref{Name: "ID"}},
		{Name: "d", Type: api.Ref{Name: "String"}},
	}}}
	isDefs(t, l[8:10], want)
}

func TestTypesErrors(t *testing.T) {
	for text, want := range map[string]api.Errno{
		"enum E{A}":                                  api.ErrSchemaMany,
		"type AddT{a:Int}":                           api.ErrSchemaName,
		"type T{id:Int}":                             api.ErrSchemaName,
		"type T{a:Int a:Int}":                        api.ErrSchemaTwice,
		"enum T{A} type T{a:Int}":                    api.ErrSchemaTwice,
		"type T{a:U}":                                api.ErrSchemaType,
		"type T{a:[Int!]!}":                          api.ErrSchemaType,
		"type T{a:T@search}":                         api.ErrSchemaSearch,
		"type T{a:T@hasInverse(field:b)}":            api.ErrSchemaInverse,
		"type T{a:Int b:[T!]!@hasInverse(field:a)}":  api.ErrSchemaInverse,
		"type T{a:Int b:[T!]!@search c:U id:Int}":    api.ErrSchemaName,
		"type T{a:Int b:[T!]!@search c:U}":           api.ErrSchemaType,
		"type T{b:[T!]!@search@hasInverse(field:a)}": api.ErrSchemaSearch,
	} {
		s := read(t, text)
		if l, e := gen.Types(s); l != nil || e != want {
			t.Errorf("%q: %v, %d, not %d", text, l, e, want)
		}
	}
	for _, s := range []api.Schema{{}, {Objects: []api.Object{}, Enums: []api.Enum{}}, {Objects: []api.Object{{Name: "T"}}}, {Objects: make([]api.Object, 100000)}} {
		if l, e := gen.Types(s); l != nil || e != api.ErrSchemaMany {
			t.Errorf("%.100v: %v, %d", s, l, e)
		}
	}
}

// Made schemas, most of which may not be: the error is that of schema.Check.
func TestTypesErrorsMade(t *testing.T) {
	for _, x := range samples.Spread(4000) {
		m := samples.NewTrees(x, 60)
		s := m.Schema()
		if m.Pick(2) == 0 {
			s = m.Allowed()
			o := s.Objects[m.Pick(len(s.Objects))]
			f := &o.Fields[m.Pick(len(o.Fields))]
			switch m.Pick(5) {
			case 0:
				f.Name = "id"
			case 1:
				f.Type.Wraps += "["
			case 2:
				f.Search = true
			case 3:
				f.Inverse = "a"
			case 4:
				f.Name = o.Fields[0].Name
			}
		}
		want := schema.Check(s)
		if want == api.OK {
			areTypes(t, s)
		} else if l, e := gen.Types(s); l != nil || e != want {
			t.Errorf("%.500v: %v, %d, not %d", s, l, e, want)
		}
	}
}

func TestTypesMade(t *testing.T) {
	for _, x := range samples.Spread(1500) {
		areTypes(t, samples.NewTrees(x, 100).Allowed())
	}
}

// How many there are: of enums and of objects, each from the fewest to the most.
func TestTypesMany(t *testing.T) {
	for objects := 1; objects <= api.MaxObjects; objects++ {
		for enums := 0; enums <= api.MaxEnums; enums++ {
			text, want := "", []string{"ID", "Int", "Float", "String", "Boolean"}
			for i := range enums {
				name := "E" + strconv.Itoa(i)
				text += "enum " + name + "{A}"
				want = append(want, name)
			}
			for i := range objects {
				name := "T" + strconv.Itoa(i)
				text += "type " + name + "{a:Int}"
				want = append(want, name, name+"Orderable", name+"Order", name+"Filter", "Add"+name, "Patch"+name)
			}
			want = append(want, "IntFilter", "FloatFilter", "StringFilter", "BooleanFilter")
			for i := range enums {
				want = append(want, "E"+strconv.Itoa(i)+"Filter")
			}
			want = append(want, "Query", "Mutation")
			var got []string
			for _, d := range areTypes(t, read(t, text)) {
				got = append(got, d.Name)
			}
			if !slices.Equal(got, want) {
				t.Errorf("%q: %v, not %v", text, got, want)
			}
		}
	}
}

// As many fields and words as there may be, and names as long as they may be.
func TestTypesFull(t *testing.T) {
	long := strings.Repeat("a", api.MaxName-2)
	var s api.Schema
	for i := range api.MaxEnums {
		x := api.Enum{Name: long + "E" + strconv.Itoa(i)}
		for j := range api.MaxWords {
			x.Words = append(x.Words, "A"+strconv.Itoa((j*7+i)%api.MaxWords))
		}
		s.Enums = append(s.Enums, x)
	}
	for i := range api.MaxObjects {
		x := api.Object{Name: long + "T" + strconv.Itoa(i)}
		for j := range api.MaxFields {
			f := api.Field{Name: "b" + strconv.Itoa((j*5+i)%api.MaxFields), Type: api.Ref{Name: s.Enums[(i+j)%api.MaxEnums].Name}}
			if j%3 == 0 {
				f.Type = api.Ref{Name: long + "T" + strconv.Itoa(j%api.MaxObjects), Wraps: "![!"}
			}
			x.Fields = append(x.Fields, f)
		}
		s.Objects = append(s.Objects, x)
	}
	if l := areTypes(t, s); len(l) != 5+api.MaxEnums+6*api.MaxObjects+4+api.MaxEnums+2 {
		t.Error(len(l))
	}
}

// The order in which a schema's enums and objects stand to each other is not kept in it; that of each of the two is.
func TestTypesOrder(t *testing.T) {
	const lines = "type B{a:A e:F} enum F{Z A} type A{b:[B!]! e:E} enum E{A}"
	has(t, lines, "enum F:Z;A")
	has(t, lines, "object Query:getB B,id ID!;queryB [B!]!,filter BFilter,order BOrder,first Int,offset Int;getA A,id ID!;queryA [A!]!,filter AFilter,order AOrder,first Int,offset Int")
	has(t, lines, "object Mutation:addB [B!]!,input [AddB!]!;updateB [B!]!,filter BFilter!,set PatchB!;deleteB Int!,filter BFilter!;addA [A!]!,input [AddA!]!;updateA [A!]!,filter AFilter!,set PatchA!;deleteA Int!,filter AFilter!")
	want := []string{"ID", "Int", "Float", "String", "Boolean", "F", "E", "B", "BOrderable", "BOrder", "BFilter", "AddB", "PatchB", "A", "AOrderable", "AOrder", "AFilter", "AddA", "PatchA", "IntFilter", "FloatFilter", "StringFilter", "BooleanFilter", "FFilter", "EFilter", "Query", "Mutation"}
	for i, d := range areTypes(t, read(t, lines)) {
		if i >= len(want) || d.Name != want[i] {
			t.Errorf("definition %d: %q", i, d.Name)
		}
	}
}

// Each type that a property may have, with `!` and without.
func TestTypesProperties(t *testing.T) {
	for _, x := range []string{"Int", "Float", "String", "Boolean", "E"} {
		for _, bang := range []string{"", "!"} {
			for _, search := range []string{"", "@search"} {
				text := put("enum E{A B} type T{a:%"+bang+search+" b:[T!]!}", x)
				has(t, text, put("object T:id ID!;a %"+bang+";b [T!]!,filter TFilter,order TOrder,first Int,offset Int", x))
				has(t, text, "enum TOrderable:id;a")
				has(t, text, put("input TFilter:and [TFilter!];or [TFilter!];not TFilter;id [ID!];a %Filter", x))
				has(t, text, put("input AddT:a %"+bang+";b [ID!]", x))
				has(t, text, put("input PatchT:a %;b [ID!]", x))
			}
		}
	}
}

// Edges to the object itself, to one ahead of it and to one behind it; ONE and MANY, with an inverse and without.
func TestTypesEdges(t *testing.T) {
	const text = "type U{a:Int} type T{b:U c:[U!]! d:T e:[T!]! f:V g:[V!]!} type V{a:Int}"
	has(t, text, "object T:id ID!;b U;c [U!]!,filter UFilter,order UOrder,first Int,offset Int;d T;e [T!]!,filter TFilter,order TOrder,first Int,offset Int;f V;g [V!]!,filter VFilter,order VOrder,first Int,offset Int")
	has(t, text, "enum TOrderable:id")
	has(t, text, "input TFilter:and [TFilter!];or [TFilter!];not TFilter;id [ID!]")
	has(t, text, "input AddT:b ID;c [ID!];d ID;e [ID!];f ID;g [ID!]")
	has(t, text, "input PatchT:b ID;c [ID!];d ID;e [ID!];f ID;g [ID!]")
	const both = "type T{a:T@hasInverse(field:a) b:[U!]!@hasInverse(field:c)} type U{c:T@hasInverse(field:b)}"
	has(t, both, "object T:id ID!;a T;b [U!]!,filter UFilter,order UOrder,first Int,offset Int")
	has(t, both, "object U:id ID!;c T")
	has(t, both, "input AddT:a ID;b [ID!]")
	has(t, both, "input PatchU:c ID")
}

// Properties alone, edges alone, and both in either order.
func TestTypesFields(t *testing.T) {
	has(t, "type T{b:Int a:String!}", "object T:id ID!;b Int;a String!")
	has(t, "type T{b:Int a:String!}", "enum TOrderable:id;b;a")
	has(t, "type T{b:Int a:String!}", "input AddT:b Int;a String!")
	has(t, "type T{a:T}", "object T:id ID!;a T")
	has(t, "type T{a:T}", "enum TOrderable:id")
	has(t, "type T{a:T b:Int}", "object T:id ID!;a T;b Int")
	has(t, "type T{b:Int a:T}", "object T:id ID!;b Int;a T")
	has(t, "type T{a:T b:Int!}", "input PatchT:a ID;b Int")
	has(t, "type T{b:Int! a:T}", "input PatchT:b Int;a ID")
	has(t, "type T{a:T b:Int! c:[T!]! d:Float}", "enum TOrderable:id;b;d")
	has(t, "type T{a:T b:Int! c:[T!]! d:Float}", "input TFilter:and [TFilter!];or [TFilter!];not TFilter;id [ID!];b IntFilter;d FloatFilter")
	// Names of fields that are types' names, and words that are fields' names.
	has(t, "enum E{id and} type T{T:E E:T Int:Float Query:Int}", "object T:id ID!;T E;E T;Int Float;Query Int")
	has(t, "enum E{id and} type T{T:E E:T Int:Float Query:Int}", "input TFilter:and [TFilter!];or [TFilter!];not TFilter;id [ID!];T EFilter;Int FloatFilter;Query IntFilter")
	has(t, "enum E{id and} type T{T:E E:T Int:Float Query:Int}", "enum E:id;and")
}

// All objects of up to three fields out of each kind, with another object and an enum.
func TestTypesShort(t *testing.T) {
	kinds := []string{"Int", "Float!", "String!", "Boolean", "E", "E!", "T", "U", "[T!]!", "[U!]!"}
	for row := range samples.Rows(3, "0", "1", "2", "3", "4", "5", "6", "7", "8", "9") {
		text := ""
		for i, c := range row {
			text += " " + string("cab"[i]) + ":" + kinds[c-'0']
		}
		if text != "" {
			areTypes(t, read(t, "type T{"+text+"} enum E{A B} type U{x:T}"))
		}
	}
}

// R4

// marks writes into each list of an answer, and into the room behind it, what stands nowhere else, and tells what now stands in all of them.
func marks(l []api.Def) (texts []string, lists func() []string) {
	n := 0
	mark := func() string {
		n++
		texts = append(texts, "mark "+strconv.Itoa(n))
		return texts[n-1]
	}
	var words [][]string
	var outs [][]api.Out
	var ins [][]api.In
	for _, d := range l {
		words, outs, ins = append(words, d.Words[:cap(d.Words)]), append(outs, d.Outs[:cap(d.Outs)]), append(ins, d.Ins[:cap(d.Ins)])
		for _, x := range d.Outs {
			ins = append(ins, x.Args[:cap(x.Args)])
		}
	}
	l = l[:cap(l)]
	for i := range l {
		l[i] = api.Def{Name: mark()}
	}
	for _, x := range words {
		for i := range x {
			x[i] = mark()
		}
	}
	for _, x := range outs {
		for i := range x {
			x[i] = api.Out{Name: mark()}
		}
	}
	for _, x := range ins {
		for i := range x {
			x[i] = api.In{Name: mark()}
		}
	}
	return texts, func() []string {
		var got []string
		for _, d := range l {
			got = append(got, d.Name)
		}
		for _, x := range words {
			got = append(got, x...)
		}
		for _, x := range outs {
			for _, y := range x {
				got = append(got, y.Name)
			}
		}
		for _, x := range ins {
			for _, y := range x {
				got = append(got, y.Name)
			}
		}
		return got
	}
}

// What is told is its owner's: no two lists of it share memory, nor does one with the schema, or with what is told again.
func TestTypesMemory(t *testing.T) {
	schemas := []api.Schema{read(t, "enum E{A B} type T{a:Int! e:E b:[U!]! c:[T!]!} type U{a:T b:[T!]! c:[T!]!}")}
	for _, x := range samples.Spread(60) {
		schemas = append(schemas, samples.NewTrees(x, 100).Allowed())
	}
	for _, s := range schemas {
		s, kept := copied(s), copied(s)
		first, _ := gen.Types(s)
		second, _ := gen.Types(s)
		want, got := marks(first)
		if !slices.Equal(got(), want) {
			t.Errorf("%.300v: two lists share memory", s)
		}
		isDefs(t, second, modelTypes(kept))
		if !reflect.DeepEqual(copied(s), kept) {
			t.Errorf("%.300v: was changed to %.300v", kept, s)
		}
		isBlank(t, s)
		areTypes(t, s)
		// And the other way about: what becomes of the schema changes nothing that was told.
		for i := range s.Enums {
			clear(s.Enums[i].Words[:cap(s.Enums[i].Words)])
		}
		for i := range s.Objects {
			clear(s.Objects[i].Fields[:cap(s.Objects[i].Fields)])
		}
		isDefs(t, second, modelTypes(kept))
	}
}

// isBlank holds the room behind a copied schema's lists against nothing.
func isBlank(t *testing.T, s api.Schema) {
	t.Helper()
	for _, x := range s.Enums {
		for _, w := range x.Words[len(x.Words):cap(x.Words)] {
			if w != "" {
				t.Errorf("%q stands behind the words of %q", w, x.Name)
			}
		}
	}
	for _, x := range s.Objects {
		for _, f := range x.Fields[len(x.Fields):cap(x.Fields)] {
			if f != (api.Field{}) {
				t.Errorf("%v stands behind the fields of %q", f, x.Name)
			}
		}
	}
}
