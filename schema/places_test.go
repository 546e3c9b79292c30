package schema_test

import (
	"math"
	"reflect"
	"slices"
	"strings"
	"testing"

	"rhizome/api"
	"rhizome/samples"
	"rhizome/schema"
)

// someNames are asked of each schema, beside all that it has.
var someNames = []string{"", "a", "T", "U", "E", "Int", "Float", "String", "Boolean", "ID", "Query", "t", "T ", "\xff"}

// namesOf are all names that stand anywhere in a schema, and some others.
func namesOf(s api.Schema) []string {
	l := slices.Clone(someNames)
	for _, x := range s.Objects {
		l = append(l, x.Name)
		for _, f := range x.Fields {
			l = append(l, f.Name, f.Type.Name, f.Inverse)
		}
	}
	for _, x := range s.Enums {
		l = append(append(l, x.Name), x.Words...)
	}
	slices.Sort(l)
	return slices.Compact(l)
}

// isPlaced holds all places of a schema against the model.
func isPlaced(t *testing.T, s api.Schema) {
	t.Helper()
	kept := copied(s)
	for _, name := range namesOf(s) {
		if at, want := schema.Object(s, name), modelObject(s, name); at != want {
			t.Errorf("%.500v: object %q: %d, not %d", s, name, at, want)
		}
		if at, want := schema.Enum(s, name), modelEnum(s, name); at != want {
			t.Errorf("%.500v: enum %q: %d, not %d", s, name, at, want)
		}
		for _, f := range []api.Field{{Type: api.Ref{Name: name}}, {Name: "a", Type: api.Ref{Name: name, Wraps: "![!"}, Search: true, Inverse: "a"}} {
			if at, want := schema.Edge(s, f), modelLeads(s, f); at != want {
				t.Errorf("%.500v: edge %v: %d, not %d", s, f, at, want)
			}
		}
	}
	for object := -2; object < len(s.Objects)+2; object++ {
		fields := 0
		if object >= 0 && object < len(s.Objects) {
			fields = len(s.Objects[object].Fields)
		}
		for field := -2; field < fields+2; field++ {
			if at, want := schema.Back(s, object, field), modelBack(s, object, field); at != want {
				t.Errorf("%.500v: back of %d, %d: %d, not %d", s, object, field, at, want)
			}
		}
	}
	if !reflect.DeepEqual(copied(s), kept) {
		t.Errorf("%.500v: was changed to %.500v", kept, s)
	}
}

// P9.2

func TestScalar(t *testing.T) {
	for _, name := range []string{"Int", "Float", "String", "Boolean"} {
		if !schema.Scalar(name) {
			t.Errorf("%q is none", name)
		}
		for _, other := range []string{name[1:], name[:len(name)-1], name + "s", " " + name, name + " ", name + "\x00", name + "!", "[" + name + "]", strings.ToLower(name), strings.ToUpper(name), name + "Filter", name + name} {
			if schema.Scalar(other) {
				t.Errorf("%q is one", other)
			}
		}
	}
	for _, name := range []string{"", " ", "ID", "T", "Query", "Enum", "Object", "int", "Integer", "Bool", "Text", "\xff", strings.Repeat("Int", 100000)} {
		if schema.Scalar(name) {
			t.Errorf("%q is one", name)
		}
	}
}

func TestObjectEnum(t *testing.T) {
	s := read(t, "enum E{A} type T{a:Int} type U{a:Int} enum F{T} type T{b:Int} enum U{A} enum E{B} type Int{a:Int} enum Float{A}")
	for name, want := range map[string][2]int{
		"T": {0, -1}, "U": {1, 2}, "Int": {3, -1}, "E": {-1, 0}, "F": {-1, 1}, "Float": {-1, 4},
		"A": {-1, -1}, "B": {-1, -1}, "a": {-1, -1}, "": {-1, -1}, "String": {-1, -1}, "t": {-1, -1}, "TT": {-1, -1}, "T ": {-1, -1},
	} {
		if a, b := schema.Object(s, name), schema.Enum(s, name); a != want[0] || b != want[1] {
			t.Errorf("%q: %d, %d, not %v", name, a, b, want)
		}
	}
	isPlaced(t, s)
	isPlaced(t, api.Schema{})
	isPlaced(t, api.Schema{Objects: []api.Object{}, Enums: []api.Enum{}})
	isPlaced(t, api.Schema{Objects: []api.Object{{}, {Name: "T"}, {}}, Enums: []api.Enum{{}, {}, {Name: "T"}}})
	isPlaced(t, sized(20, 30))
	// The empty name is one as any other.
	if s := (api.Schema{Objects: []api.Object{{Name: "T"}, {}}, Enums: []api.Enum{{Name: "E"}, {Name: "F"}, {}}}); schema.Object(s, "") != 1 || schema.Enum(s, "") != 2 {
		t.Error("empty names")
	}
}

func TestEdge(t *testing.T) {
	s := read(t, "type T{a:Int} enum E{A} type U{a:Int} type Int{a:Int} type E{a:Int} type V{a:Int} type U{b:Int} enum V{A} enum String{A}")
	for name, want := range map[string]int{"T": 0, "U": 1, "Int": -1, "E": -1, "V": -1, "String": -1, "Float": -1, "Boolean": -1, "ID": -1, "W": -1, "": -1, "a": -1, "A": -1, "t": -1} {
		for _, f := range []api.Field{
			{Type: api.Ref{Name: name}}, {Name: "a", Type: api.Ref{Name: name, Wraps: "!"}}, {Name: "T", Type: api.Ref{Name: name, Wraps: "![!"}, Inverse: "U"}, {Name: "U", Type: api.Ref{Name: name, Wraps: "[[!!"}, Search: true},
		} {
			if at := schema.Edge(s, f); at != want {
				t.Errorf("%v: %d, not %d", f, at, want)
			}
		}
	}
	isPlaced(t, s)
	if at := schema.Edge(api.Schema{Objects: []api.Object{{}}}, api.Field{}); at != 0 {
		t.Errorf("the empty name: %d", at)
	}
	if at := schema.Edge(api.Schema{Objects: []api.Object{{}}, Enums: []api.Enum{{}}}, api.Field{}); at != -1 {
		t.Errorf("the empty name, an enum's, too: %d", at)
	}
	for _, name := range []string{"Int", "Float", "String", "Boolean"} {
		if at := schema.Edge(api.Schema{Objects: []api.Object{{Name: name}}}, api.Field{Type: api.Ref{Name: name}}); at != -1 {
			t.Errorf("%s, an object's name, too: %d", name, at)
		}
	}
}

func TestBack(t *testing.T) {
	s := read(t, "type T{a:Int u:[U!]!@hasInverse(field:t)} type U{v:T t:T@hasInverse(field:u) w:U@hasInverse(field:w) x:T@hasInverse(field:z)}")
	for object, l := range [][]int{{-1, 1}, {-1, 1, 2, -1}} {
		for field, want := range l {
			if at := schema.Back(s, object, field); at != want {
				t.Errorf("%d, %d: %d, not %d", object, field, at, want)
			}
		}
	}
	isPlaced(t, s)
	for _, at := range []int{-1, -2, 2, 4, 5, 1 << 31, 1 << 32, 1<<32 + 1, -1 << 32, math.MaxInt, math.MinInt} {
		for _, other := range []int{0, 1, 3, at} {
			if schema.Back(s, at, other) != -1 || at != 2 && schema.Back(s, other, at) != -1 {
				t.Errorf("%d, %d", at, other)
			}
		}
	}
	if schema.Back(s, 0, 2) != -1 || schema.Back(api.Schema{}, 0, 0) != -1 || schema.Back(api.Schema{Objects: []api.Object{{}}}, 0, 0) != -1 {
		t.Error("what is not there")
	}
}

// Back of schemas that may not be: it asks nothing of the field to which it leads but its name.
func TestBackOfAny(t *testing.T) {
	for text, want := range map[string]int{
		"type T{a:T@hasInverse(field:b) b:T}":                           1,
		"type T{a:T@hasInverse(field:b) b:Int}":                         1,
		"type T{a:T!@search@hasInverse(field:c) b:Int c:[V]}":           2,
		"type T{a:T@hasInverse(field:b) c:T b:T b:T}":                   2,
		"type T{a:T@hasInverse(field:a) a:T}":                           0,
		"type T{a:U@hasInverse(field:a)} type U{b:Int a:V} type U{a:T}": 1,
		"type T{a:U@hasInverse(field:a)} type U{b:Int} type U{a:T}":     -1,
		"type T{a:U@hasInverse(field:a)} type U{b:Int} type V{a:T}":     -1,
		"type T{a:U@hasInverse(field:a)} type U{a:T} enum U{A}":         -1,
		"type T{a:Int@hasInverse(field:a)} type Int{a:T}":               -1,
		"type T{a:Int@hasInverse(field:a)}":                             -1,
		"type T{a:E@hasInverse(field:a)} enum E{a}":                     -1,
		"type T{a:V@hasInverse(field:a)}":                               -1,
		"type T{a:T@hasInverse(field:id)}":                              -1,
		"type T{a:T@hasInverse(field:id) id:Int}":                       1,
		"type T{a:T}": -1,
		"type T{a:U@hasInverse(field:c)} type T{c:Int} type U{a:Int b:T c:T}": 2,
	} {
		s := read(t, text)
		if at := schema.Back(s, 0, 0); at != want {
			t.Errorf("%q: %d, not %d", text, at, want)
		}
		isPlaced(t, s)
	}
	// An empty Inverse is none, though a field has no name.
	s := api.Schema{Objects: []api.Object{{Name: "T", Fields: []api.Field{{Type: api.Ref{Name: "T"}}, {Name: "a", Type: api.Ref{Name: "T"}}}}}}
	if schema.Back(s, 0, 0) != -1 || schema.Back(s, 0, 1) != -1 {
		t.Error("an empty Inverse")
	}
	isPlaced(t, s)
}

// Made schemas, most of which may not be.
func TestPlacesMade(t *testing.T) {
	for _, x := range samples.Spread(400) {
		m := samples.NewTrees(x, 200)
		isPlaced(t, m.Schema())
		s := m.Allowed()
		isPlaced(t, s)
		for range 4 {
			isPlaced(t, changed(m, s))
		}
	}
}

// Names that are twice, or an object's and an enum's or a scalar's: all schemas of some.
func TestPlacesTwice(t *testing.T) {
	tops := []string{"T", "U", "Int", ""}
	for _, a := range tops {
		for _, b := range tops {
			for _, c := range tops {
				for _, inverse := range []string{"", "a", "b", "c"} {
					l := []api.Field{{Name: "a", Type: api.Ref{Name: a}, Inverse: inverse}, {Name: "b", Type: api.Ref{Name: b}, Inverse: inverse}, {Name: "a", Type: api.Ref{Name: c}, Inverse: "b"}}
					isPlaced(t, api.Schema{Objects: []api.Object{{Name: a, Fields: l[1:]}, {Name: b, Fields: l}, {Name: "T", Fields: l[2:]}}, Enums: []api.Enum{enum(c, 1)}})
					isPlaced(t, api.Schema{Objects: []api.Object{{Name: a, Fields: l[:1]}, {Name: b, Fields: l[:2]}, {Name: c, Fields: l}}})
				}
			}
		}
	}
}

// P9.3

// isLedBack holds of a schema that may be: what leads back leads back from there.
func isLedBack(t *testing.T, s api.Schema) int {
	t.Helper()
	n := 0
	for i, x := range s.Objects {
		for j, f := range x.Fields {
			to, back := schema.Edge(s, f), schema.Back(s, i, j)
			if (back >= 0) != (f.Inverse != "") {
				t.Errorf("%.500v: back of %d, %d: %d", s, i, j, back)
			}
			if back < 0 {
				continue
			}
			n++
			if schema.Edge(s, s.Objects[to].Fields[back]) != i || schema.Back(s, to, back) != j {
				t.Errorf("%.500v: %d, %d is not where %d, %d leads back", s, i, j, to, back)
			}
		}
	}
	return n
}

func TestLedBack(t *testing.T) {
	n := 0
	for _, x := range samples.Spread(2000) {
		s := samples.NewTrees(x, 0).Allowed()
		is(t, s, api.OK)
		n += isLedBack(t, s)
	}
	if n < 2000 {
		t.Errorf("only %d lead back", n)
	}
	isLedBack(t, read(t, "type T{a:Int!@search b:[T!]!@hasInverse(field:b)}"))
}

// An object more with one property, wherever it stands.
func TestObjectMore(t *testing.T) {
	more := 0
	for _, x := range samples.Spread(1000) {
		m := samples.NewTrees(x, 0)
		s := m.Allowed()
		kind := "Int"
		if len(s.Enums) > 0 && m.Pick(2) == 0 {
			kind = s.Enums[m.Pick(len(s.Enums))].Name
		}
		f := api.Field{Name: "a", Type: api.Ref{Name: kind, Wraps: []string{"", "!"}[m.Pick(2)]}, Search: m.Pick(2) == 0}
		s.Objects = slices.Insert(s.Objects, m.Pick(len(s.Objects)+1), api.Object{Name: "New", Fields: []api.Field{f}})
		if len(s.Objects) > api.MaxObjects {
			is(t, s, api.ErrSchemaMany)
			continue
		}
		more++
		is(t, s, api.OK)
		isLedBack(t, s)
		twice := copied(s)
		twice.Objects[0].Name = twice.Objects[len(twice.Objects)-1].Name
		is(t, twice, api.ErrSchemaTwice)
	}
	if more < 500 {
		t.Errorf("only %d", more)
	}
}
