package gen_test

import (
	"reflect"
	"strconv"
	"testing"

	"rhizome/api"
	"rhizome/gen"
	"rhizome/samples"
)

// finds holds Find against the model, and against a place.
func finds(t *testing.T, l []api.Def, name string, want int) {
	t.Helper()
	if at := gen.Find(l, name); at != want || at != modelFind(l, name) {
		t.Errorf("%.300v: %q at %d, not %d", l, name, at, want)
	}
}

// tells holds Out against the model, and tells what it answers.
func tells(t *testing.T, l []api.Def, def, field string) (api.Out, bool) {
	t.Helper()
	kept := copiedDefs(l)
	want, is := modelField(l, def, field)
	x, ok := gen.Out(l, def, field)
	x.Args, want.Args = roomy(x.Args), roomy(want.Args)
	if !reflect.DeepEqual(x, want) || ok != is {
		t.Errorf("%.300v: %q of %q is %v, %v, not %v, %v", l, field, def, x, ok, want, is)
	}
	if !reflect.DeepEqual(copiedDefs(l), kept) {
		t.Errorf("%.300v: was changed to %.300v", kept, l)
	}
	return x, ok
}

// says holds Out against the text of a field.
func says(t *testing.T, l []api.Def, def, field, text string) {
	t.Helper()
	want := modelOut(text)
	want.Args = roomy(want.Args)
	if x, ok := tells(t, l, def, field); !ok || !reflect.DeepEqual(x, want) {
		t.Errorf("%.300v: %q of %q is %v, %v, not %v", l, field, def, x, ok, want)
	}
}

// hasNot holds Out against none.
func hasNot(t *testing.T, l []api.Def, def, field string) {
	t.Helper()
	if x, ok := tells(t, l, def, field); ok || !reflect.DeepEqual(x, api.Out{}) {
		t.Errorf("%.300v: %q of %q is %v, %v", l, field, def, x, ok)
	}
}

// P10.1, Find

func TestFind(t *testing.T) {
	l := []api.Def{{Name: "A"}, {Name: "B"}, {Name: "A", Kind: api.DefObject}, {Name: "C"}, {Name: "B"}}
	finds(t, l, "A", 0)
	finds(t, l, "B", 1)
	finds(t, l, "C", 3)
	finds(t, l[2:], "A", 0)
	finds(t, l[2:], "B", 2)
	for _, name := range []string{"", "D", "a", "AA", "A ", " A", "A\x00", "__typename"} {
		finds(t, l, name, -1)
	}
	finds(t, nil, "A", -1)
	finds(t, nil, "", -1)
	finds(t, []api.Def{}, "", -1)
	finds(t, l[:0], "A", -1)
	finds(t, []api.Def{{Name: "A"}, {}, {}}, "", 1)
	finds(t, []api.Def{{Kind: -1}}, "", 0)
	finds(t, []api.Def{{Name: "\xff"}, {Name: "é"}}, "é", 1)
}

// Each definition of a schema's is found where it stands.
func TestFindTypes(t *testing.T) {
	for _, x := range samples.Spread(100) {
		l := areTypes(t, samples.NewTrees(x, 100).Allowed())
		for i, d := range l {
			finds(t, l, d.Name, i)
			finds(t, l[:i], d.Name, -1)
		}
	}
}

func TestFindLong(t *testing.T) {
	var l []api.Def
	for i := range 100000 {
		l = append(l, api.Def{Name: strconv.Itoa(i)})
	}
	finds(t, l, "99999", 99999)
	finds(t, l, "100000", -1)
}

// P10.1, Out

func TestOutTypes(t *testing.T) {
	l := areTypes(t, read(t, "enum E{A} type T{a:Int! e:E b:[U!]! c:T} type U{a:Int}"))
	says(t, l, "T", "id", "id ID!")
	says(t, l, "T", "a", "a Int!")
	says(t, l, "T", "e", "e E")
	says(t, l, "T", "b", "b [U!]!,filter UFilter,order UOrder,first Int,offset Int")
	says(t, l, "T", "c", "c T")
	says(t, l, "U", "a", "a Int")
	says(t, l, "Query", "getT", "getT T,id ID!")
	says(t, l, "Query", "queryU", "queryU [U!]!,filter UFilter,order UOrder,first Int,offset Int")
	says(t, l, "Mutation", "addT", "addT [T!]!,input [AddT!]!")
	says(t, l, "Mutation", "updateU", "updateU [U!]!,filter UFilter!,set PatchU!")
	says(t, l, "Mutation", "deleteT", "deleteT Int!,filter TFilter!")
	for _, def := range []string{"T", "U", "Query", "Mutation"} {
		says(t, l, def, "__typename", "__typename String!")
		for _, field := range []string{"", "nope", "__type", "__schema", "__typename ", "typename", "ID", "Id"} {
			hasNot(t, l, def, field)
		}
	}
	hasNot(t, l, "U", "b")
	hasNot(t, l, "Query", "addT")
	hasNot(t, l, "Mutation", "getT")
	hasNot(t, l, "Query", "id")
	for _, def := range []string{"E", "TOrderable", "TOrder", "TFilter", "AddT", "PatchT", "IntFilter", "EFilter", "ID", "Int", "String", "Subscription", "t", "", "__typename"} {
		for _, field := range []string{"a", "id", "asc", "and", "eq", "A", "", "__typename"} {
			hasNot(t, l, def, field)
		}
	}
}

// Each field of each made schema's definitions.
func TestOutMade(t *testing.T) {
	for _, x := range samples.Spread(100) {
		l := areTypes(t, samples.NewTrees(x, 100).Allowed())
		for _, d := range l {
			for _, x := range d.Outs {
				tells(t, l, d.Name, x.Name)
			}
			for _, x := range d.Ins {
				hasNot(t, l, d.Name, x.Name)
			}
			tells(t, l, d.Name, "__typename")
		}
	}
}

// Any list: definitions of any kind, with anything in them.
func TestOutAny(t *testing.T) {
	outs := []api.Out{modelOut("a Int"), modelOut("a String!,b Int"), modelOut("__typename Int,c ID!")}
	for kind := -1; kind <= api.DefKinds; kind++ {
		l := []api.Def{{Name: "T", Kind: kind, Outs: outs, Words: []string{"a"}, Ins: []api.In{modelIn("a ID")}}}
		if kind == api.DefObject {
			says(t, l, "T", "a", "a Int")
			says(t, l, "T", "__typename", "__typename String!")
		} else {
			hasNot(t, l, "T", "a")
			hasNot(t, l, "T", "__typename")
		}
		hasNot(t, l, "T", "b")
		hasNot(t, l, "U", "a")
		hasNot(t, l, "", "a")
	}
	object := func(name string, outs ...api.Out) api.Def {
		return api.Def{Name: name, Kind: api.DefObject, Outs: outs}
	}
	// The first of a name counts, whatever the next one has.
	l := []api.Def{object("T"), object("T", outs...), {Name: "U", Outs: outs}, object("U", outs...)}
	hasNot(t, l, "T", "a")
	says(t, l, "T", "__typename", "__typename String!")
	hasNot(t, l, "U", "a")
	hasNot(t, l, "U", "__typename")
	says(t, l[1:], "T", "a", "a Int")
	says(t, l[3:], "U", "a", "a Int")
	// The empty name is a name as others are.
	l = []api.Def{object("", outs[1], api.Out{Type: api.Ref{Name: "ID"}})}
	says(t, l, "", "", " ID")
	says(t, l, "", "a", "a String!,b Int")
	says(t, l, "", "__typename", "__typename String!")
	hasNot(t, l, "T", "")
	hasNot(t, []api.Def{object("T", outs...)}, "T", "")
	for _, l := range [][]api.Def{nil, {}, l[:0]} {
		hasNot(t, l, "T", "a")
		hasNot(t, l, "", "")
		hasNot(t, l, "", "__typename")
	}
}

// All lists of two definitions, each with up to two fields.
func TestOutShort(t *testing.T) {
	var fields []api.Out
	for i, name := range []string{"", "a", "__typename"} {
		fields = append(fields, modelOut(name+" T"+strconv.Itoa(i)+",x Int"))
	}
	lists := [][]api.Out{nil, {}}
	for i, x := range fields {
		lists = append(lists, []api.Out{x})
		for _, y := range fields {
			y.Type.Wraps = "!["[:i%3]
			lists = append(lists, []api.Out{x, y})
		}
	}
	var defs []api.Def
	for _, name := range []string{"", "T"} {
		for kind := range api.DefKinds {
			for _, l := range lists {
				defs = append(defs, api.Def{Name: name, Kind: kind, Outs: l})
			}
		}
	}
	for _, x := range defs {
		for _, y := range defs {
			l := []api.Def{x, y}
			for _, def := range []string{"", "T", "U"} {
				if at, want := gen.Find(l, def), modelFind(l, def); at != want {
					t.Fatalf("%v: %q at %d, not %d", l, def, at, want)
				}
				for _, field := range []string{"", "a", "__typename", "b"} {
					got, ok := gen.Out(l, def, field)
					want, is := modelField(l, def, field)
					if ok != is || !reflect.DeepEqual(got, want) {
						t.Fatalf("%v: %q of %q is %v, %v, not %v, %v", l, field, def, got, ok, want, is)
					}
				}
			}
		}
	}
}

// R4: a field's arguments are its owner's.
func TestOutMemory(t *testing.T) {
	l := copiedDefs([]api.Def{{Name: "T", Kind: api.DefObject, Outs: []api.Out{modelOut("a Int,b Int,c ID"), modelOut("d Int"), modelOut("e Int,f Int")}}})
	l[0].Outs[1].Args = make([]api.In, 0, 3)
	kept := copiedDefs(l)
	for _, field := range []string{"a", "d", "e", "__typename"} {
		first, _ := gen.Out(l, "T", field)
		second, _ := gen.Out(l, "T", field)
		args := first.Args[:cap(first.Args)]
		for i := range args {
			args[i] = api.In{Name: "mark"}
		}
		want, _ := modelField(kept, "T", field)
		if second.Args = roomy(second.Args); !reflect.DeepEqual(second, want) {
			t.Errorf("%q: %v, not %v", field, second, want)
		}
		tells(t, l, "T", field)
	}
	if !reflect.DeepEqual(copiedDefs(l), kept) {
		t.Errorf("%v: was changed to %v", kept, l)
	}
	for _, x := range l[0].Outs {
		for _, y := range x.Args[len(x.Args):cap(x.Args)] {
			if y != (api.In{}) {
				t.Errorf("%v stands behind the arguments of %q", y, x.Name)
			}
		}
	}
	x, _ := gen.Out(l, "T", "a")
	clear(l[0].Outs[0].Args)
	if want, _ := modelField(kept, "T", "a"); !reflect.DeepEqual(roomy(x.Args), want.Args) {
		t.Errorf("%v: what becomes of the list changes what was told", x)
	}
}
