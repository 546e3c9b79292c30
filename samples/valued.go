package samples

import (
	"slices"
	"strconv"
	"strings"

	"rhizome/api"
)

// valuer makes values that fit types, and keeps the variables that stand in them.
type valuer struct {
	*Trees
	defs []api.Def
	vars []wanted
}

// wanted is a variable that may stand at a type.
type wanted struct {
	api.Var
	at api.Ref
}

// Valued is a document as Asked makes them, that breaks no rule of package values either: its values fit, and its operations define the variables that they use.
func (m *Trees) Valued(defs []api.Def) api.Doc {
	v := &valuer{Trees: m, defs: defs}
	a := &asker{Trees: m, defs: defs, value: func(t api.Ref) api.Value { return v.value(t, 3, false) }}
	ops := a.ops(1 + m.many(2, 20))
	for i := range ops {
		ops[i].Vars = v.used(usedBy(ops[i].Sels, a.frags))
	}
	return api.Doc{Ops: ops, Frags: a.frags}
}

// Fitting is a value that fits a type and has no variable in it.
func (m *Trees) Fitting(defs []api.Def, t api.Ref) api.Value {
	v := &valuer{Trees: m, defs: defs}
	return v.value(t, 3, true)
}

// value has at most so many others around one; a fixed one has no variable in it.
func (v *valuer) value(t api.Ref, deep int, fixed bool) api.Value {
	switch n := v.Pick(6); {
	case n == 0 && !fixed:
		return api.Value{Kind: api.ValVar, Text: v.variable(t)}
	case n == 1 && !strings.HasSuffix(t.Wraps, "!"):
		return api.Value{}
	}
	return v.bare(t, deep, fixed)
}

// bare is neither a variable nor null.
func (v *valuer) bare(t api.Ref, deep int, fixed bool) api.Value {
	t.Wraps = strings.TrimSuffix(t.Wraps, "!")
	inner, list := strings.CutSuffix(t.Wraps, "[")
	if !list || v.Pick(4) == 0 {
		return v.named(t.Name, deep, fixed)
	}
	x := api.Value{Kind: api.ValList}
	for range v.many(3, 3) {
		x.List = append(x.List, v.value(api.Ref{Name: t.Name, Wraps: inner}, deep-1, fixed))
	}
	return x
}

// named fits a type without an end.
func (v *valuer) named(name string, deep int, fixed bool) api.Value {
	at := slices.IndexFunc(v.defs, func(d api.Def) bool { return d.Name == name })
	switch d := v.defs[at]; d.Kind {
	case api.DefScalar:
		return v.scalar(name)
	case api.DefEnum:
		return api.Value{Kind: api.ValEnum, Text: v.word(d.Words)}
	default:
		return v.object(d.Ins, deep, fixed)
	}
}

// word is one that may be written: a property may be called `true`, but no document can order by it.
func (v *valuer) word(l []string) string {
	l = slices.DeleteFunc(slices.Clone(l), func(x string) bool { return x == "true" || x == "false" || x == "null" })
	return l[v.Pick(len(l))]
}

func (v *valuer) scalar(name string) api.Value {
	whole := api.Value{Kind: api.ValInt, Text: v.pickOf("0 -0 1 -12 2147483647 -2147483648")}
	text := api.Value{Kind: api.ValText, Text: v.pickOf("a {a} \" é")}
	switch odd := v.Pick(2) == 0; {
	case name == "Boolean":
		return api.Value{Kind: []int{api.ValFalse, api.ValTrue}[v.Pick(2)]}
	case name == "Float" && odd:
		return api.Value{Kind: api.ValFloat, Text: v.pickOf("0.0 -1e5 1.5E-3 1e308")}
	case name == "String", name == "ID" && odd:
		return text
	}
	return whole
}

// object has all that is needed, in any order, and some of what else there is.
func (v *valuer) object(ins []api.In, deep int, fixed bool) api.Value {
	x := api.Value{Kind: api.ValObject}
	for _, in := range ins {
		if strings.HasSuffix(in.Type.Wraps, "!") || deep > 0 && v.many(2, 1) == 2 {
			v.left -= 3
			at := v.Pick(len(x.Names) + 1)
			x.Names = slices.Insert(x.Names, at, in.Name)
			x.List = slices.Insert(x.List, at, v.value(in.Type, deep-1, fixed))
		}
	}
	return x
}

// variable is the name of one that may stand at a type: of one that is there, or of a new one.
func (v *valuer) variable(t api.Ref) string {
	var l []string
	for _, x := range v.vars {
		if x.at == t {
			l = append(l, x.Name)
		}
	}
	if n := v.Pick(len(l) + 1); n < len(l) {
		return l[n]
	}
	x := api.Var{Name: "v" + strconv.Itoa(len(v.vars)), Type: v.stricter(t)}
	inner, must := strings.CutSuffix(t.Wraps, "!")
	switch n := v.Pick(4); {
	case n == 0 && must:
		x.Type.Wraps = inner
		x.Has, x.Default = true, v.bare(x.Type, 2, true)
	case n == 1:
		x.Has, x.Default = true, v.value(x.Type, 2, true)
	}
	v.vars = append(v.vars, wanted{x, t})
	return x.Name
}

// stricter is a type with perhaps more signs `!`: what may not be null goes for what may.
func (v *valuer) stricter(t api.Ref) api.Ref {
	wraps := ""
	for i, sign := range t.Wraps {
		if sign == '[' && !strings.HasSuffix(wraps, "!") && v.Pick(3) == 0 {
			wraps += "!"
		}
		wraps += t.Wraps[i : i+1]
	}
	if !strings.HasSuffix(wraps, "!") && v.Pick(3) == 0 {
		wraps += "!"
	}
	return api.Ref{Name: t.Name, Wraps: wraps}
}

// used are the variables of these names.
func (v *valuer) used(names map[string]int) []api.Var {
	var l []api.Var
	for _, x := range v.vars {
		if names[x.Name] > 0 {
			l = append(l, x.Var)
		}
	}
	return l
}

// usedBy are the names of the variables in selections and in all fragments that are spread there, none of which leads to itself.
func usedBy(l []api.Sel, frags []api.Frag) map[string]int {
	names := map[string]int{}
	var value func(api.Value)
	value = func(v api.Value) {
		if v.Kind == api.ValVar {
			names[v.Text]++
		}
		for _, x := range v.List {
			value(x)
		}
	}
	var sels func([]api.Sel)
	sels = func(l []api.Sel) {
		for _, x := range l {
			args := slices.Clone(x.Args)
			for _, d := range x.Directives {
				args = append(args, d.Args...)
			}
			for _, a := range args {
				value(a.Value)
			}
			sels(x.Sels)
			for _, f := range frags {
				if x.Kind == api.SelSpread && f.Name == x.Name {
					sels(f.Sels)
				}
			}
		}
	}
	sels(l)
	return names
}
