package schema

import (
	"strings"

	"rhizome/api"
	"rhizome/syntax"
)

// every tells whether something holds of each of a list.
func every[T any](l []T, holds func(T) bool) bool {
	for _, x := range l {
		if !holds(x) {
			return false
		}
	}
	return true
}

// spot is a field with its object's place and its own.
type spot struct {
	object, field int
	f             api.Field
}

// spots are all fields.
func spots(s api.Schema) []spot {
	var l []spot
	for i, x := range s.Objects {
		for j, f := range x.Fields {
			l = append(l, spot{object: i, field: j, f: f})
		}
	}
	return l
}

// manyEnough is rule 1.
func manyEnough(s api.Schema) bool {
	return between(len(s.Objects), 1, api.MaxObjects) && len(s.Enums) <= api.MaxEnums &&
		every(s.Objects, func(x api.Object) bool { return between(len(x.Fields), 1, api.MaxFields) }) &&
		every(s.Enums, func(x api.Enum) bool { return between(len(x.Words), 1, api.MaxWords) })
}

func between(n, least, most int) bool { return least <= n && n <= most }

// wellNamed is rule 2, but of the fields.
func wellNamed(s api.Schema) bool {
	return every(s.Objects, func(x api.Object) bool { return freeType(x.Name) }) &&
		every(s.Enums, func(x api.Enum) bool { return freeType(x.Name) && every(x.Words, freeWord) })
}

// shortName tells whether a name may stand anywhere. Its length is asked first: then no name is gone over that is too long.
func shortName(name string) bool {
	return len(name) <= api.MaxName && syntax.Name(name) && !strings.HasPrefix(name, "__")
}

// freeField tells whether a field may have the name: the API's inputs have fields of their own.
func freeField(name string) bool {
	switch name {
	case "id", "and", "or", "not":
		return false
	}
	return shortName(name)
}

// freeWord tells whether a word is none that a document would read as another value.
func freeWord(name string) bool {
	switch name {
	case "true", "false", "null":
		return false
	}
	return shortName(name)
}

// freeType tells whether an object or an enum may have the name: no type of the API's own has it, and none that the API makes of another's name.
func freeType(name string) bool {
	switch name {
	case "Query", "Mutation", "Subscription", "ID":
		return false
	}
	return shortName(name) && !Scalar(name) &&
		every([]string{"Add", "Patch"}, func(x string) bool { return !strings.HasPrefix(name, x) }) &&
		every([]string{"Filter", "Order", "Orderable"}, func(x string) bool { return !strings.HasSuffix(name, x) })
}

// namedOnce is rule 3.
func namedOnce(s api.Schema) bool {
	return unlike(s.Objects, objectName) && unlike(s.Enums, enumName) &&
		every(s.Enums, func(x api.Enum) bool { return Object(s, x.Name) < 0 && unlike(x.Words, wordName) }) &&
		every(s.Objects, func(x api.Object) bool { return unlike(x.Fields, fieldName) })
}

// unlike tells whether no two have the same name. The lists are short: rule 1 holds.
func unlike[T any](l []T, nameOf func(T) string) bool {
	for i, x := range l {
		if place(l, nameOf, nameOf(x)) < i {
			return false
		}
	}
	return true
}

// wellTyped is rule 4, of one field.
func wellTyped(s api.Schema, f api.Field) bool {
	switch {
	case property(s, f):
		return f.Type.Wraps == "" || f.Type.Wraps == "!"
	case Edge(s, f) >= 0:
		return f.Type.Wraps == "" || f.Type.Wraps == "![!"
	}
	return false
}

// ledBack is rule 6, of a field that has an Inverse. The field that Back tells is the only one of its name: rule 3 holds.
func ledBack(s api.Schema, x spot) bool {
	at := Back(s, x.object, x.field)
	if at < 0 {
		return false
	}
	back := s.Objects[Edge(s, x.f)].Fields[at]
	return Edge(s, back) == x.object && back.Inverse == x.f.Name
}
