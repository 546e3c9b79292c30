package schema_test

import (
	"regexp"
	"slices"

	"rhizome/api"
)

// The model says the chapter's words anew: it gathers all rules that are broken, each asked of the whole schema by itself, and answers the least. Names are told by regular expressions; what leads back is told by a set of edges, each with its way back.

var (
	modelName    = regexp.MustCompile(`^[A-Za-z_][0-9A-Za-z_]{0,23}$`)
	modelOwn     = regexp.MustCompile(`^__`)
	modelNoField = regexp.MustCompile(`^(id|and|or|not)$`)
	modelNoWord  = regexp.MustCompile(`^(true|false|null)$`)
	modelNoType  = regexp.MustCompile(`^(Query|Mutation|Subscription|ID|Int|Float|String|Boolean)$|^(Add|Patch)|(Filter|Order|Orderable)$`)
	modelScalar  = regexp.MustCompile(`^(Int|Float|String|Boolean)$`)
)

// modelRules gathers which rules are broken.
type modelRules []api.Errno

func (r *modelRules) must(holds bool, e api.Errno) {
	if !holds {
		*r = append(*r, e)
	}
}

func (r *modelRules) counts(s api.Schema) {
	r.must(len(s.Objects) >= 1 && len(s.Objects) <= 8 && len(s.Enums) <= 8, api.ErrSchemaMany)
	for _, x := range s.Objects {
		r.must(len(x.Fields) >= 1 && len(x.Fields) <= 12, api.ErrSchemaMany)
	}
	for _, x := range s.Enums {
		r.must(len(x.Words) >= 1 && len(x.Words) <= 16, api.ErrSchemaMany)
	}
}

// names holds the names of one list against the rules: which may not be, and that each is there once.
func (r *modelRules) names(l []string, barred *regexp.Regexp) {
	for _, x := range l {
		r.must(modelName.MatchString(x) && !modelOwn.MatchString(x) && !barred.MatchString(x), api.ErrSchemaName)
	}
	sorted := slices.Sorted(slices.Values(l))
	r.must(len(slices.Compact(sorted)) == len(l), api.ErrSchemaTwice)
}

// modelEdge is an edge by names.
type modelEdge struct{ from, field, to, back string }

func (r *modelRules) fields(s api.Schema, objects, enums []string) {
	var edges []modelEdge
	for _, x := range s.Objects {
		for _, f := range x.Fields {
			wraps, back := f.Type.Wraps, f.Inverse
			switch {
			case modelScalar.MatchString(f.Type.Name) || slices.Contains(enums, f.Type.Name):
				r.must(wraps == "" || wraps == "!", api.ErrSchemaType)
				r.must(back == "", api.ErrSchemaInverse)
			case slices.Contains(objects, f.Type.Name):
				r.must(wraps == "" || wraps == "![!", api.ErrSchemaType)
				r.must(!f.Search, api.ErrSchemaSearch)
				edges = append(edges, modelEdge{x.Name, f.Name, f.Type.Name, back})
			default:
				r.must(false, api.ErrSchemaType)
			}
		}
	}
	for _, x := range edges {
		r.must(x.back == "" || slices.Contains(edges, modelEdge{x.to, x.back, x.from, x.field}), api.ErrSchemaInverse)
	}
}

// modelCheck is what Check should answer.
func modelCheck(s api.Schema) api.Errno {
	var r modelRules
	var objects, enums []string
	r.counts(s)
	for _, x := range s.Objects {
		objects = append(objects, x.Name)
		var names []string
		for _, f := range x.Fields {
			names = append(names, f.Name)
		}
		r.names(names, modelNoField)
	}
	for _, x := range s.Enums {
		enums = append(enums, x.Name)
		r.names(x.Words, modelNoWord)
	}
	r.names(slices.Concat(objects, enums), modelNoType)
	r.fields(s, objects, enums)
	if len(r) == 0 {
		return api.OK
	}
	return slices.Min(r)
}

// modelFirst is where each name stands first.
func modelFirst[T any](l []T, name func(T) string) map[string]int {
	m := map[string]int{}
	for i := len(l) - 1; i >= 0; i-- {
		m[name(l[i])] = i
	}
	return m
}

func modelAt(m map[string]int, name string) int {
	if at, ok := m[name]; ok {
		return at
	}
	return -1
}

func modelObject(s api.Schema, name string) int {
	return modelAt(modelFirst(s.Objects, func(x api.Object) string { return x.Name }), name)
}

func modelEnum(s api.Schema, name string) int {
	return modelAt(modelFirst(s.Enums, func(x api.Enum) string { return x.Name }), name)
}

// modelLeads is what Edge should answer.
func modelLeads(s api.Schema, f api.Field) int {
	m := modelFirst(s.Objects, func(x api.Object) string { return x.Name })
	for _, x := range []string{"Int", "Float", "String", "Boolean"} {
		delete(m, x)
	}
	for _, x := range s.Enums {
		delete(m, x.Name)
	}
	return modelAt(m, f.Type.Name)
}

// modelBack is what Back should answer: found by going over all places, so that one that is none is not found.
func modelBack(s api.Schema, object, field int) int {
	for i, x := range s.Objects {
		for j, f := range x.Fields {
			to := modelLeads(s, f)
			if i == object && j == field && to != -1 && f.Inverse != "" {
				return modelAt(modelFirst(s.Objects[to].Fields, func(f api.Field) string { return f.Name }), f.Inverse)
			}
		}
	}
	return -1
}
