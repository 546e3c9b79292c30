package gen

import (
	"rhizome/api"
	"rhizome/schema"
)

// What stands around a type's name, as api.Ref has it: from within.
const (
	may  = ""    // X
	must = "!"   // X!
	some = "!["  // [X!]
	all  = "![!" // [X!]!
)

// over puts behind a list what is made of each field; a field of which nothing is made is passed by.
func over[T any](l []T, fields []api.Field, made func(api.Field) (T, bool)) []T {
	for _, f := range fields {
		if x, ok := made(f); ok {
			l = append(l, x)
		}
	}
	return l
}

// ofObject are an object's own six definitions.
func ofObject(s api.Schema, x api.Object) []api.Def {
	property := func(f api.Field) bool { return schema.Edge(s, f) < 0 }
	name, orderable, order, filter := x.Name, x.Name+"Orderable", x.Name+"Order", x.Name+"Filter"
	return []api.Def{
		outs(name, over([]api.Out{out("id", "ID", must)}, x.Fields, func(f api.Field) (api.Out, bool) {
			return field(f), true
		})),
		words(orderable, over([]string{"id"}, x.Fields, func(f api.Field) (string, bool) {
			return f.Name, property(f)
		})),
		ins(order, in("asc", orderable, may), in("desc", orderable, may), in("then", order, may)),
		ins(filter, over([]api.In{in("and", filter, some), in("or", filter, some), in("not", filter, may), in("id", "ID", some)}, x.Fields, func(f api.Field) (api.In, bool) {
			return in(f.Name, f.Type.Name+"Filter", may), property(f)
		})...),
		ins("Add"+name, over(nil, x.Fields, func(f api.Field) (api.In, bool) {
			return given(f, property(f), f.Type.Wraps), true
		})...),
		ins("Patch"+name, over(nil, x.Fields, func(f api.Field) (api.In, bool) {
			return given(f, property(f), may), true
		})...),
	}
}

// field is one as an object tells it: only an edge to many has the Wraps of one, and takes arguments.
func field(f api.Field) api.Out {
	if f.Type.Wraps == all {
		return many(f.Name, f.Type.Name)
	}
	return out(f.Name, f.Type.Name, f.Type.Wraps)
}

// given is a field as an input takes it: nodes are given by their numbers, and none need be.
func given(f api.Field, property bool, wraps string) api.In {
	switch {
	case property:
		return in(f.Name, f.Type.Name, wraps)
	case f.Type.Wraps == all:
		return in(f.Name, "ID", some)
	}
	return in(f.Name, "ID", may)
}

// scalars are those of the API.
func scalars() []api.Def {
	var l []api.Def
	for _, name := range []string{"ID", "Int", "Float", "String", "Boolean"} {
		l = append(l, api.Def{Name: name, Kind: api.DefScalar})
	}
	return l
}

// filters are what a property of each type may be asked for.
func filters(s api.Schema) []api.Def {
	l := []api.Def{
		ins("IntFilter", compared("Int")...),
		ins("FloatFilter", compared("Float")...),
		ins("StringFilter", append(compared("String"), in("begins", "String", may))...),
		ins("BooleanFilter", in("eq", "Boolean", may)),
	}
	for _, x := range s.Enums {
		l = append(l, ins(x.Name+"Filter", in("eq", x.Name, may), in("in", x.Name, some)))
	}
	return l
}

// compared is what may be asked of a type whose values stand in an order.
func compared(name string) []api.In {
	var l []api.In
	for _, x := range []string{"eq", "lt", "le", "gt", "ge"} {
		l = append(l, in(x, name, may))
	}
	return append(l, in("in", name, some))
}

// query is the root of what is asked.
func query(s api.Schema) api.Def {
	var l []api.Out
	for _, x := range s.Objects {
		l = append(l, out("get"+x.Name, x.Name, may, in("id", "ID", must)), many("query"+x.Name, x.Name))
	}
	return outs("Query", l)
}

// mutation is the root of what is changed.
func mutation(s api.Schema) api.Def {
	var l []api.Out
	for _, x := range s.Objects {
		filter := in("filter", x.Name+"Filter", must)
		l = append(l,
			out("add"+x.Name, x.Name, all, in("input", "Add"+x.Name, all)),
			out("update"+x.Name, x.Name, all, filter, in("set", "Patch"+x.Name, must)),
			out("delete"+x.Name, "Int", must, filter))
	}
	return outs("Mutation", l)
}

// many is a field that tells nodes of an object, with the arguments by which they are chosen.
func many(name, object string) api.Out {
	return out(name, object, all, in("filter", object+"Filter", may), in("order", object+"Order", may), in("first", "Int", may), in("offset", "Int", may))
}

func in(name, of, wraps string) api.In {
	return api.In{Name: name, Type: api.Ref{Name: of, Wraps: wraps}}
}

func out(name, of, wraps string, args ...api.In) api.Out {
	return api.Out{Name: name, Type: api.Ref{Name: of, Wraps: wraps}, Args: args}
}

func words(name string, l []string) api.Def {
	return api.Def{Name: name, Kind: api.DefEnum, Words: l}
}

func outs(name string, l []api.Out) api.Def {
	return api.Def{Name: name, Kind: api.DefObject, Outs: l}
}

func ins(name string, l ...api.In) api.Def {
	return api.Def{Name: name, Kind: api.DefInput, Ins: l}
}
