package schema_test

import (
	"reflect"
	"slices"
	"strconv"
	"strings"
	"testing"

	"rhizome/api"
	"rhizome/samples"
	"rhizome/schema"
	"rhizome/sdl"
)

// copied is a schema in memory of its own; what is empty is nil.
func copied(s api.Schema) api.Schema {
	x := api.Schema{Objects: append([]api.Object(nil), s.Objects...), Enums: append([]api.Enum(nil), s.Enums...)}
	for i, o := range x.Objects {
		x.Objects[i].Fields = append([]api.Field(nil), o.Fields...)
	}
	for i, o := range x.Enums {
		x.Enums[i].Words = append([]string(nil), o.Words...)
	}
	return x
}

// isChecked holds Check of a schema against the model.
func isChecked(t *testing.T, s api.Schema) api.Errno {
	t.Helper()
	kept := copied(s)
	e := schema.Check(s)
	if want := modelCheck(s); e != want {
		t.Errorf("%.500v: %d, not %d", s, e, want)
	}
	if !reflect.DeepEqual(copied(s), kept) {
		t.Errorf("%.500v: was changed to %.500v", kept, s)
	}
	return e
}

// is holds Check of a schema against an error.
func is(t *testing.T, s api.Schema, want api.Errno) {
	t.Helper()
	if e := isChecked(t, s); e != want {
		t.Errorf("%.500v: %d, not %d", s, e, want)
	}
}

// read is the schema of a text.
func read(t *testing.T, text string) api.Schema {
	t.Helper()
	s, at, e := sdl.Parse(text)
	if e != api.OK {
		t.Fatalf("%q: %d at %d", text, e, at)
	}
	return s
}

// says holds Check of a text's schema against an error.
func says(t *testing.T, text string, want api.Errno) {
	t.Helper()
	if e := isChecked(t, read(t, text)); e != want {
		t.Errorf("%q: %d, not %d", text, e, want)
	}
}

// names are n of them.
func names(ahead string, n int) []string {
	var l []string
	for i := range n {
		l = append(l, ahead+strconv.Itoa(i))
	}
	return l
}

// object is one with n properties.
func object(name string, n int) api.Object {
	x := api.Object{Name: name}
	for _, field := range names("a", n) {
		x.Fields = append(x.Fields, api.Field{Name: field, Type: api.Ref{Name: "Int"}})
	}
	return x
}

// enum is one with n words.
func enum(name string, n int) api.Enum { return api.Enum{Name: name, Words: names("A", n)} }

// sized is a schema of so many objects and enums, each with one field or word.
func sized(objects, enums int) api.Schema {
	var s api.Schema
	for _, name := range names("T", objects) {
		s.Objects = append(s.Objects, object(name, 1))
	}
	for _, name := range names("E", enums) {
		s.Enums = append(s.Enums, enum(name, 1))
	}
	return s
}

// typed is a schema of an object T with these fields, and of an object U and an enum E beside it.
func typed(l ...api.Field) api.Schema {
	return api.Schema{
		Objects: []api.Object{{Name: "T", Fields: l}, object("U", 1)},
		Enums:   []api.Enum{enum("E", 1)},
	}
}

// P9.1

func TestCheckExamples(t *testing.T) {
	says(t, "type T{a:Int!@search b:[T!]!@hasInverse(field:b)}", api.OK)
	says(t, "type T{a:Int!@search b:[T]@hasInverse(field:b)}", api.ErrSchemaType)
	says(t, "type T{a:Int!@search b:[T]}", api.ErrSchemaType)
	says(t, "type T{id:Int!@search b:[T!]!@hasInverse(field:b)}", api.ErrSchemaName)
	says(t, "type T{a:Int!@search id:Int b:[T!]!@hasInverse(field:b)}", api.ErrSchemaName)
	says(t, "type T{a:Int!@search b:[T!]!@search}", api.ErrSchemaSearch)
	says(t, "type T{a:Int!@search b:[T!]!@search@hasInverse(field:b)}", api.ErrSchemaSearch)
	says(t, "type T{a:Int!@search b:[T!]!@hasInverse(field:a)}", api.ErrSchemaInverse)
	says(t, "type T{a:Int!@search a:Int b:[T!]!@hasInverse(field:b)}", api.ErrSchemaTwice)
	says(t, "type T{a:Int!@search a:[T!]!@hasInverse(field:a)}", api.ErrSchemaTwice)
	says(t, "enum E{A}", api.ErrSchemaMany)
	says(t, "type AddT{a:Int}", api.ErrSchemaName)
	says(t, "type T{a:U}", api.ErrSchemaType)
	says(t, "enum E{A} type T{a:Int! e:E b:[T!]!}", api.OK)
}

// Rule 1

func TestCheckManyObjects(t *testing.T) {
	for n := range 12 {
		want := api.OK
		if n < 1 || n > api.MaxObjects {
			want = api.ErrSchemaMany
		}
		is(t, sized(n, 0), want)
		is(t, sized(n, 1), want)
		is(t, sized(n, api.MaxEnums), want)
	}
	is(t, api.Schema{}, api.ErrSchemaMany)
	is(t, api.Schema{Objects: []api.Object{}, Enums: []api.Enum{}}, api.ErrSchemaMany)
	is(t, sized(100000, 0), api.ErrSchemaMany)
}

func TestCheckManyEnums(t *testing.T) {
	for n := range 12 {
		want := api.OK
		if n > api.MaxEnums {
			want = api.ErrSchemaMany
		}
		is(t, sized(1, n), want)
		is(t, sized(api.MaxObjects, n), want)
	}
	is(t, api.Schema{Objects: []api.Object{object("T", 1)}, Enums: []api.Enum{}}, api.OK)
	is(t, sized(1, 100000), api.ErrSchemaMany)
}

// Of each object, and of each enum, wherever it stands.
func TestCheckManyWithin(t *testing.T) {
	for n := range 20 {
		for at := range api.MaxObjects {
			s := sized(api.MaxObjects, api.MaxEnums)
			s.Objects[at] = object("T", n)
			want := api.OK
			if n < 1 || n > api.MaxFields {
				want = api.ErrSchemaMany
			}
			is(t, s, want)
		}
		for at := range api.MaxEnums {
			s := sized(1, api.MaxEnums)
			s.Enums[at] = enum("E", n)
			want := api.OK
			if n < 1 || n > api.MaxWords {
				want = api.ErrSchemaMany
			}
			is(t, s, want)
		}
	}
	is(t, api.Schema{Objects: []api.Object{{Name: "T", Fields: []api.Field{}}}}, api.ErrSchemaMany)
	is(t, api.Schema{Objects: []api.Object{object("T", 1)}, Enums: []api.Enum{{Name: "E", Words: []string{}}}}, api.ErrSchemaMany)
	is(t, api.Schema{Objects: []api.Object{object("T", 100000)}}, api.ErrSchemaMany)
	is(t, api.Schema{Objects: []api.Object{object("T", 1)}, Enums: []api.Enum{enum("E", 100000)}}, api.ErrSchemaMany)
	// As many as there may be of everything.
	s := sized(0, 0)
	for _, name := range names("T", api.MaxObjects) {
		s.Objects = append(s.Objects, object(name, api.MaxFields))
	}
	for _, name := range names("E", api.MaxEnums) {
		s.Enums = append(s.Enums, enum(name, api.MaxWords))
	}
	is(t, s, api.OK)
}

// Rule 2

// withName is, for each place at which a name stands, a schema with that name there and no other that it could be twice: of each kind the first, and the last.
func withName(name string) map[string][]api.Schema {
	fields := func(name string) []api.Field { return []api.Field{{Name: name, Type: api.Ref{Name: "Int"}}} }
	other := api.Object{Name: "TT", Fields: fields("aa")}
	others := api.Enum{Name: "EE", Words: []string{"AA", "BB"}}
	return map[string][]api.Schema{
		"object": {
			{Objects: []api.Object{{Name: name, Fields: fields("aa")}}},
			{Objects: []api.Object{other, {Name: name, Fields: fields("aa")}}, Enums: []api.Enum{others}},
		},
		"enum": {
			{Objects: []api.Object{other}, Enums: []api.Enum{{Name: name, Words: []string{"AA"}}}},
			{Objects: []api.Object{other}, Enums: []api.Enum{others, {Name: name, Words: []string{"AA"}}}},
		},
		"field": {
			{Objects: []api.Object{{Name: "UU", Fields: fields(name)}}},
			{Objects: []api.Object{other, {Name: "UU", Fields: slices.Concat(fields("aa"), fields(name))}}, Enums: []api.Enum{others}},
		},
		"word": {
			{Objects: []api.Object{other}, Enums: []api.Enum{{Name: "FF", Words: []string{name}}}},
			{Objects: []api.Object{other}, Enums: []api.Enum{others, {Name: "FF", Words: []string{"AA", name}}}},
		},
	}
}

// isNamed holds Check of schemas with a name at each kind of place against where it may stand.
func isNamed(t *testing.T, name string, where ...string) {
	t.Helper()
	for place, l := range withName(name) {
		want := api.ErrSchemaName
		if slices.Contains(where, place) {
			want = api.OK
		}
		for _, s := range l {
			if e := isChecked(t, s); e != want {
				t.Errorf("%s %q: %d, not %d", place, name, e, want)
			}
		}
	}
}

var everywhere = []string{"object", "enum", "field", "word"}

func TestCheckNames(t *testing.T) {
	for _, name := range []string{"a", "_", "_a", "a_", "a__", "_1", "A1", "on", "type", "enum", "query", "x", "Z9_", strings.Repeat("a", api.MaxName), strings.Repeat("_a", api.MaxName/2)} {
		isNamed(t, name, everywhere...)
	}
	for _, name := range []string{"", " ", "a ", " a", "a b", "1", "1a", "-", "a-b", "a.b", "$a", "!", "[a]", "é", "aé", "\xff", "a\xff", "\x00", "a\x00", "a\n", "\na", "a,", "#a", "\ufeffa", "\"a\"", "...",
		"__", "___", "__a", "__typename", "__1", strings.Repeat("a", api.MaxName+1), strings.Repeat("_a", api.MaxName/2) + "b", strings.Repeat("a", 100000), strings.Repeat("é", 12), strings.Repeat("é", 13)} {
		isNamed(t, name)
	}
	for n := range 40 {
		if n >= 1 && n <= api.MaxName {
			isNamed(t, strings.Repeat("x", n), everywhere...)
		} else {
			isNamed(t, strings.Repeat("x", n))
		}
	}
}

func TestCheckNamesBarred(t *testing.T) {
	for _, name := range []string{"id", "and", "or", "not"} {
		isNamed(t, name, "object", "enum", "word")
	}
	for _, name := range []string{"true", "false", "null"} {
		isNamed(t, name, "object", "enum", "field")
	}
	for _, name := range []string{"Query", "Mutation", "Subscription", "ID", "Int", "Float", "String", "Boolean",
		"Add", "Patch", "AddT", "PatchT", "Add_", "Added", "Address", "Patches", "AddAdd", "Filter", "Order", "Orderable", "TFilter", "TOrder", "TOrderable", "_Filter", "FilterFilter", "OrderOrder", "IntFilter", "AddFilter", "Add" + strings.Repeat("a", 21), strings.Repeat("a", 18) + "Filter", strings.Repeat("a", 19) + "Order", strings.Repeat("a", 15) + "Orderable"} {
		isNamed(t, name, "field", "word")
	}
	for _, name := range []string{"Id", "iD", "ID_", "ids", "AND", "And", "ands", "Or", "ors", "Not", "nots", "True", "FALSE", "Null", "nulls", "trues", "asc", "desc", "then", "filter", "first", "typename", "eq",
		"query", "Querys", "Query_", "_Query", "mutation", "Mutation1", "Subscriptions", "id_", "int", "Ints", "INT", "float", "Floats", "string", "Strings", "boolean", "Bool", "Booleans",
		"add", "ADD", "Ad", "addT", "TAdd", "_AddT", "Pat", "Patc", "patchT", "TPatch", "filter", "Filters", "FilterT", "ilter", "order", "Orders", "OrderT", "Orderables", "OrderableT", "TOrderabl", "TFilte", "TOrde", "Torder", "T_filter", "TFilter_", "TOrderableT"} {
		isNamed(t, name, everywhere...)
	}
}

// Each byte, by itself, at the beginning, in the midst, at the end.
func TestCheckNamesBytes(t *testing.T) {
	for c := range 256 {
		x := string([]byte{byte(c)})
		for _, name := range []string{x, x + "a", "a" + x, "a" + x + "a", "_" + x, "__" + x} {
			for _, l := range withName(name) {
				for _, s := range l {
					isChecked(t, s)
				}
			}
		}
	}
}

// The names of types and inverses are no names of the schema's own: rule 2 says nothing of them.
func TestCheckNamesElsewhere(t *testing.T) {
	for _, name := range []string{"", " ", "__a", "é", "AddT", "Query", "TFilter", strings.Repeat("a", 25)} {
		is(t, typed(api.Field{Name: "a", Type: api.Ref{Name: name}}), api.ErrSchemaType)
		if name != "" {
			is(t, typed(api.Field{Name: "a", Type: api.Ref{Name: "Int"}, Inverse: name}), api.ErrSchemaInverse)
			is(t, typed(api.Field{Name: "a", Type: api.Ref{Name: "T"}, Inverse: name}), api.ErrSchemaInverse)
		}
	}
}

// Rule 3

func TestCheckTwice(t *testing.T) {
	for text, want := range map[string]api.Errno{
		"type T{a:Int} type T{b:Int}":                           api.ErrSchemaTwice,
		"type T{a:Int} type U{a:Int} type T{a:Int}":             api.ErrSchemaTwice,
		"type U{a:Int} type T{a:Int} type T{a:Int}":             api.ErrSchemaTwice,
		"enum E{A} enum E{B} type T{a:Int}":                     api.ErrSchemaTwice,
		"enum E{A} enum F{A} enum E{A} type T{a:Int}":           api.ErrSchemaTwice,
		"enum T{A} type T{a:Int}":                               api.ErrSchemaTwice,
		"enum E{A} enum U{A} type T{a:Int} type U{a:Int}":       api.ErrSchemaTwice,
		"enum U{A} enum E{A} type T{a:Int} type V{a:Int}":       api.OK,
		"type T{a:Int a:Int}":                                   api.ErrSchemaTwice,
		"type T{a:Int b:Int a:String!}":                         api.ErrSchemaTwice,
		"type T{a:Int} type U{a:Int b:Int b:Int}":               api.ErrSchemaTwice,
		"type T{a:Int a:T}":                                     api.ErrSchemaTwice,
		"enum E{A A} type T{a:Int}":                             api.ErrSchemaTwice,
		"enum E{A B C B} type T{a:Int}":                         api.ErrSchemaTwice,
		"enum E{A} enum F{A B B} type T{a:Int}":                 api.ErrSchemaTwice,
		"type T{a:Int} type U{a:Int}":                           api.OK,
		"enum E{A B} enum F{A B} type T{a:Int}":                 api.OK,
		"enum E{E F T a} enum F{E F T a} type T{T:Int E:E F:F}": api.OK,
		"enum E{A} type T{A:E a:E t:T} type t{A:T T:T t:t}":     api.OK,
		"enum e{a A} enum E{A a} type T{a:Int A:Int}":           api.OK,
	} {
		says(t, text, want)
	}
}

// Each two places of the same kind, whichever name stands there.
func TestCheckTwicePlaces(t *testing.T) {
	full := func() api.Schema {
		s := sized(api.MaxObjects, api.MaxEnums)
		for i := range s.Objects {
			s.Objects[i].Fields = object("T", api.MaxFields).Fields
		}
		for i := range s.Enums {
			s.Enums[i].Words = names("A", api.MaxWords)
		}
		return s
	}
	tops := func(s api.Schema) []*string {
		var l []*string
		for i := range s.Objects {
			l = append(l, &s.Objects[i].Name)
		}
		for i := range s.Enums {
			l = append(l, &s.Enums[i].Name)
		}
		return l
	}
	for i := range api.MaxObjects + api.MaxEnums {
		for j := range i {
			s := full()
			l := tops(s)
			*l[i] = *l[j]
			is(t, s, api.ErrSchemaTwice)
		}
	}
	for at := range api.MaxObjects {
		for i := range api.MaxFields {
			for j := range i {
				s := full()
				s.Objects[at].Fields[i].Name = s.Objects[at].Fields[j].Name
				is(t, s, api.ErrSchemaTwice)
			}
		}
	}
	for at := range api.MaxEnums {
		for i := range api.MaxWords {
			for j := range i {
				s := full()
				s.Enums[at].Words[i] = s.Enums[at].Words[j]
				is(t, s, api.ErrSchemaTwice)
			}
		}
	}
	is(t, full(), api.OK)
}

// Rule 4

func TestCheckWraps(t *testing.T) {
	for wraps := range samples.Rows(4, "!", "[", "]", " ", "T") {
		for name, may := range map[string][]string{"Int": {"", "!"}, "Float": {"", "!"}, "String": {"", "!"}, "Boolean": {"", "!"}, "E": {"", "!"}, "T": {"", "![!"}, "U": {"", "![!"}, "V": nil, "ID": nil, "Query": nil, "TFilter": nil, "int": nil, "": nil} {
			want := api.ErrSchemaType
			if slices.Contains(may, wraps) {
				want = api.OK
			}
			f := api.Field{Name: "a", Type: api.Ref{Name: name, Wraps: wraps}}
			is(t, typed(f), want)
			is(t, typed(api.Field{Name: "b", Type: api.Ref{Name: "Int", Wraps: "!"}}, f), want)
		}
	}
	for text, want := range map[string]api.Errno{
		"type T{a:Int} type U{a:T! b:Int}":     api.ErrSchemaType,
		"type T{a:Int} type U{b:Int a:[T!]}":   api.ErrSchemaType,
		"type T{a:[Int!]!} type U{b:Int}":      api.ErrSchemaType,
		"enum E{A} type T{a:[E!]!}":            api.ErrSchemaType,
		"enum E{A} type T{a:E!}":               api.OK,
		"type T{a:U b:[U!]!} type U{a:T b:U}":  api.OK,
		"enum E{F A} type T{a:Int b:A}":        api.ErrSchemaType,
		"enum E{F A} type T{a:Int b:a}":        api.ErrSchemaType,
		"type T{a:U} type V{a:Int}":            api.ErrSchemaType,
		"type T{a:Int!@search b:[T!]! c:ID}":   api.ErrSchemaType,
		"type T{a:Int} type U{a:Int b:String}": api.OK,
	} {
		says(t, text, want)
	}
}

// Rule 5

func TestCheckSearch(t *testing.T) {
	for _, name := range []string{"Int", "Float", "String", "Boolean", "E"} {
		for _, wraps := range []string{"", "!"} {
			is(t, typed(api.Field{Name: "a", Type: api.Ref{Name: name, Wraps: wraps}, Search: true}), api.OK)
		}
	}
	for _, name := range []string{"T", "U"} {
		for _, wraps := range []string{"", "![!"} {
			f := api.Field{Name: "a", Type: api.Ref{Name: name, Wraps: wraps}}
			is(t, typed(f), api.OK)
			f.Search = true
			is(t, typed(f), api.ErrSchemaSearch)
			is(t, typed(api.Field{Name: "b", Type: api.Ref{Name: "Int"}, Search: true}, f), api.ErrSchemaSearch)
			s := typed(api.Field{Name: "b", Type: api.Ref{Name: "Int"}, Search: true})
			s.Objects[1].Fields = append(s.Objects[1].Fields, f)
			is(t, s, api.ErrSchemaSearch)
		}
	}
}

// Rule 6

func TestCheckInverse(t *testing.T) {
	for text, want := range map[string]api.Errno{
		"type T{b:T@hasInverse(field:b)}":                                                                                 api.OK,
		"type T{b:[T!]!@hasInverse(field:b)}":                                                                             api.OK,
		"type T{a:T@hasInverse(field:b) b:T@hasInverse(field:a)}":                                                         api.OK,
		"type T{a:[T!]!@hasInverse(field:b) b:T@hasInverse(field:a)}":                                                     api.OK,
		"type T{a:T@hasInverse(field:b) b:T@hasInverse(field:b)}":                                                         api.ErrSchemaInverse,
		"type T{a:T@hasInverse(field:b) b:T@hasInverse(field:c) c:T@hasInverse(field:a)}":                                 api.ErrSchemaInverse,
		"type T{a:T@hasInverse(field:b) b:T}":                                                                             api.ErrSchemaInverse,
		"type T{b:T a:T@hasInverse(field:b)}":                                                                             api.ErrSchemaInverse,
		"type T{a:T@hasInverse(field:c)}":                                                                                 api.ErrSchemaInverse,
		"type T{a:T@hasInverse(field:T)}":                                                                                 api.ErrSchemaInverse,
		"type T{a:T@hasInverse(field:id)}":                                                                                api.ErrSchemaInverse,
		"type T{b:Int a:T@hasInverse(field:b)}":                                                                           api.ErrSchemaInverse,
		"type T{b:Int@hasInverse(field:a) a:T@hasInverse(field:b)}":                                                       api.ErrSchemaInverse,
		"type T{a:Int@hasInverse(field:a)}":                                                                               api.ErrSchemaInverse,
		"type T{a:Int@hasInverse(field:b) b:Int@hasInverse(field:a)}":                                                     api.ErrSchemaInverse,
		"enum E{A} type T{a:E@hasInverse(field:A)}":                                                                       api.ErrSchemaInverse,
		"type T{u:U@hasInverse(field:t)} type U{t:T@hasInverse(field:u)}":                                                 api.OK,
		"type U{t:[T!]!@hasInverse(field:u)} type T{u:[U!]!@hasInverse(field:t)}":                                         api.OK,
		"type T{t:U@hasInverse(field:t)} type U{t:T@hasInverse(field:t)}":                                                 api.OK,
		"type T{u:U@hasInverse(field:t)} type U{t:T}":                                                                     api.ErrSchemaInverse,
		"type T{u:U} type U{t:T@hasInverse(field:u)}":                                                                     api.ErrSchemaInverse,
		"type T{u:U@hasInverse(field:t)} type U{t:U@hasInverse(field:u)}":                                                 api.ErrSchemaInverse,
		"type T{u:U@hasInverse(field:t)} type U{t:U@hasInverse(field:u) u:U@hasInverse(field:t)}":                         api.ErrSchemaInverse,
		"type T{u:U@hasInverse(field:u)} type U{t:T@hasInverse(field:t)}":                                                 api.ErrSchemaInverse,
		"type T{u:U@hasInverse(field:u)} type U{t:T@hasInverse(field:u)}":                                                 api.ErrSchemaInverse,
		"type T{u:U@hasInverse(field:t) v:U@hasInverse(field:t)} type U{t:T@hasInverse(field:u)}":                         api.ErrSchemaInverse,
		"type T{v:U@hasInverse(field:t) u:U@hasInverse(field:t)} type U{t:T@hasInverse(field:u)}":                         api.ErrSchemaInverse,
		"type T{u:U@hasInverse(field:t)} type U{t:V@hasInverse(field:u)} type V{u:U@hasInverse(field:t)}":                 api.ErrSchemaInverse,
		"type T{u:U@hasInverse(field:t)} type U{a:Int} type V{t:T@hasInverse(field:u)}":                                   api.ErrSchemaInverse,
		"type T{u:U@hasInverse(field:a)} type U{a:Int}":                                                                   api.ErrSchemaInverse,
		"type T{u:U@hasInverse(field:a) a:T@hasInverse(field:u)} type U{b:Int}":                                           api.ErrSchemaInverse,
		"type T{u:U@hasInverse(field:t) v:U@hasInverse(field:s)} type U{t:T@hasInverse(field:u) s:T@hasInverse(field:v)}": api.OK,
		"type T{u:U@hasInverse(field:t) v:U@hasInverse(field:s)} type U{t:T@hasInverse(field:v) s:T@hasInverse(field:u)}": api.ErrSchemaInverse,
		"type T{u:U@hasInverse(field:t) v:T@hasInverse(field:v) w:U} type U{t:T@hasInverse(field:u) s:T}":                 api.OK,
	} {
		says(t, text, want)
	}
}

// Several rules

// breaks are, for each rule, changes by which a schema breaks it and no rule ahead of it: at its beginning, and at its end. That schema has objects T and U and enums E and F.
var breaks = [][]func(s *api.Schema){
	{
		func(s *api.Schema) { s.Objects[0].Fields = nil },
		func(s *api.Schema) { s.Enums[1].Words = nil },
	}, {
		func(s *api.Schema) { s.Objects[0].Fields[0].Name = "id" },
		func(s *api.Schema) { s.Enums[1].Words[1] = "null" },
	}, {
		func(s *api.Schema) { s.Objects[0].Fields[1].Name = s.Objects[0].Fields[2].Name },
		func(s *api.Schema) { s.Enums[1].Name = "U" },
	}, {
		func(s *api.Schema) { s.Objects[0].Fields[3].Type.Name = "V" },
		func(s *api.Schema) { s.Objects[1].Fields[3].Type.Wraps = "[" },
	}, {
		func(s *api.Schema) { s.Objects[0].Fields[4].Search = true },
		func(s *api.Schema) { s.Objects[1].Fields[4].Search = true },
	}, {
		func(s *api.Schema) { s.Objects[0].Fields[5].Inverse = "b" },
		func(s *api.Schema) { s.Objects[1].Fields[5].Inverse = "b" },
	},
}

const manyFields = "{a:Int b:Int c:Int d:T e:[T!]! f:T g:Int}"

// unbroken is the schema that breaks are about.
func unbroken(t *testing.T) api.Schema {
	return read(t, "type T"+manyFields+" type U"+manyFields+" enum E{A B} enum F{A B}")
}

// Each two rules, in either order of place, and all sets of the breaks: the first rule counts.
func TestCheckFirstRule(t *testing.T) {
	is(t, unbroken(t), api.OK)
	for i := range breaks {
		for j := range breaks {
			for k := range 4 {
				s := unbroken(t)
				// Fields that are taken away can't be changed any more: the rules' changes are made from behind.
				last, first := max(i, j), min(i, j)
				breaks[last][k%2](&s)
				breaks[first][k/2](&s)
				is(t, s, api.ErrSchemaMany+api.Errno(first))
			}
		}
	}
	for set := 1; set < 1<<12; set++ {
		s, want := unbroken(t), api.OK
		for i := 11; i >= 0; i-- {
			if set>>i&1 == 1 {
				breaks[i/2][i%2](&s)
				want = api.ErrSchemaMany + api.Errno(i/2)
			}
		}
		is(t, s, want)
	}
}

// What a later rule would say, were it not for the rule ahead of it, of the same field or name.
func TestCheckRuleAhead(t *testing.T) {
	for text, want := range map[string]api.Errno{
		"enum E{A A}":                                                      api.ErrSchemaMany,
		"enum Add{A}":                                                      api.ErrSchemaMany,
		"type Add{a:Int} type Add{a:Int}":                                  api.ErrSchemaName,
		"type T{id:Int id:Int}":                                            api.ErrSchemaName,
		"type T{id:V}":                                                     api.ErrSchemaName,
		"type T{id:T@search@hasInverse(field:id)}":                         api.ErrSchemaName,
		"type Int{a:Int}":                                                  api.ErrSchemaName,
		"enum Int{A} type T{a:Int}":                                        api.ErrSchemaName,
		"type T{a:V a:V}":                                                  api.ErrSchemaTwice,
		"enum U{A} type U{a:[Int]} type T{a:U!}":                           api.ErrSchemaTwice,
		"type T{a:T@search a:T@hasInverse(field:z)}":                       api.ErrSchemaTwice,
		"type T{a:[T]@search}":                                             api.ErrSchemaType,
		"type T{a:V@search}":                                               api.ErrSchemaType,
		"type T{a:T!@hasInverse(field:z)}":                                 api.ErrSchemaType,
		"type T{a:V@hasInverse(field:a)}":                                  api.ErrSchemaType,
		"type T{a:[Int]@search@hasInverse(field:a)}":                       api.ErrSchemaType,
		"type T{a:T@search@hasInverse(field:a)}":                           api.ErrSchemaSearch,
		"type T{a:T@search@hasInverse(field:z)}":                           api.ErrSchemaSearch,
		"type T{b:Int@hasInverse(field:b) a:T@search}":                     api.ErrSchemaSearch,
		"type T{a:Int@search@hasInverse(field:a)}":                         api.ErrSchemaInverse,
		"type T{b:Int@hasInverse(field:b) a:T@search} type U{a:[T]}":       api.ErrSchemaType,
		"type T{b:Int@hasInverse(field:b) a:T@search} type U{a:[T] not:T}": api.ErrSchemaName,
	} {
		says(t, text, want)
	}
}

// All schemas of two objects with a field each.
func TestCheckFields(t *testing.T) {
	var l []api.Field
	for _, name := range []string{"a", "b"} {
		for _, kind := range []string{"Int", "E", "T", "U", "V"} {
			for _, wraps := range []string{"", "!", "![!"} {
				for _, search := range []bool{false, true} {
					for _, inverse := range []string{"", "a", "b", "T"} {
						l = append(l, api.Field{Name: name, Type: api.Ref{Name: kind, Wraps: wraps}, Search: search, Inverse: inverse})
					}
				}
			}
		}
	}
	told := map[api.Errno]int{}
	for _, f := range l {
		for _, g := range l {
			s := api.Schema{Objects: []api.Object{{Name: "T", Fields: []api.Field{f}}, {Name: "U", Fields: []api.Field{g}}}, Enums: []api.Enum{enum("E", 1)}}
			told[isChecked(t, s)]++
			s.Objects = []api.Object{{Name: "T", Fields: []api.Field{f, g}}}
			told[isChecked(t, s)]++
		}
	}
	for _, e := range []api.Errno{api.OK, api.ErrSchemaTwice, api.ErrSchemaType, api.ErrSchemaSearch, api.ErrSchemaInverse} {
		if told[e] == 0 {
			t.Errorf("none that is %d", e)
		}
	}
}

// All schemas of at most two objects and two enums of some names, with fields and words of some names.
func TestCheckTops(t *testing.T) {
	tops := []string{"T", "U", "Int", "AddT", ""}
	for _, a := range tops {
		for _, b := range tops {
			for _, c := range tops {
				for _, d := range tops {
					for n := range 9 {
						s := api.Schema{
							Objects: []api.Object{{Name: a, Fields: object("", 1).Fields}, {Name: b, Fields: []api.Field{{Name: "a", Type: api.Ref{Name: c}}}}}[:n%3],
							Enums:   []api.Enum{enum(c, 1), enum(d, 2)}[:n/3],
						}
						isChecked(t, s)
					}
				}
			}
		}
	}
}

// pickName is a name of all kinds, those that are barred somewhere among them.
func pickName(m *samples.Trees) string {
	l := strings.Fields("a b c d e T U V E F A B Int Float String Boolean ID Query AddT TOrder TFilter id and true null __a 1 é Node Ad _ abcdefghijklmnopqrstuvwxy")
	if at := m.Pick(len(l) + 1); at < len(l) {
		return l[at]
	}
	return ""
}

// changed is a schema with one thing that is another.
func changed(m *samples.Trees, s api.Schema) api.Schema {
	x := copied(s)
	if len(x.Enums) > 0 && m.Pick(3) == 0 {
		at := &x.Enums[m.Pick(len(x.Enums))]
		switch m.Pick(4) {
		case 0:
			at.Name = pickName(m)
		case 1:
			at.Words[m.Pick(len(at.Words))] = pickName(m)
		case 2:
			at.Words = append(at.Words, at.Words...)[:m.Pick(2*len(at.Words))]
		case 3:
			x.Enums = append(x.Enums, *at)
		}
		return x
	}
	at := &x.Objects[m.Pick(len(x.Objects))]
	f := &at.Fields[m.Pick(len(at.Fields))]
	switch m.Pick(9) {
	case 0:
		at.Name = pickName(m)
	case 1:
		at.Fields = append(at.Fields, at.Fields...)[:m.Pick(2*len(at.Fields))]
	case 2:
		x.Objects = slices.Insert(x.Objects, m.Pick(len(x.Objects)), *at)
	case 3:
		x.Objects = x.Objects[1:]
	case 4:
		f.Name = pickName(m)
	case 5:
		f.Type.Name = x.Objects[m.Pick(len(x.Objects))].Name
	case 6:
		f.Type.Wraps = []string{"", "!", "[", "![", "[!", "![!"}[m.Pick(6)]
	case 7:
		f.Search = !f.Search
	case 8:
		f.Inverse = []string{"", pickName(m), at.Fields[m.Pick(len(at.Fields))].Name}[m.Pick(3)]
	}
	return x
}

// Made schemas that may be, and with one thing and more that are others.
func TestCheckMade(t *testing.T) {
	told := map[api.Errno]int{}
	for _, x := range samples.Spread(3000) {
		m := samples.NewTrees(x, 300)
		s := m.Allowed()
		is(t, s, api.OK)
		for range 12 {
			told[isChecked(t, changed(m, s))]++
		}
		if n := changed(m, s); len(n.Objects) > 0 && !slices.ContainsFunc(n.Objects, func(x api.Object) bool { return len(x.Fields) == 0 }) && !slices.ContainsFunc(n.Enums, func(x api.Enum) bool { return len(x.Words) == 0 }) {
			told[isChecked(t, changed(m, n))]++
		}
		told[isChecked(t, m.Schema())]++
	}
	for e := api.ErrSchemaMany; e <= api.ErrSchemaInverse; e++ {
		if told[e] < 200 {
			t.Errorf("%d only %d times", e, told[e])
		}
	}
	if told[api.OK] < 200 {
		t.Errorf("OK only %d times", told[api.OK])
	}
}
