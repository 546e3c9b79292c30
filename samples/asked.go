package samples

import (
	"strconv"

	"rhizome/api"
)

// asker makes selections of what definitions have.
type asker struct {
	*Trees
	defs  []api.Def
	frags []api.Frag // those that are whole
	value func(api.Ref) api.Value
}

// Asked is a document that asks definitions, with a Query and a Mutation, for what they have, and so breaks no rule of packages fields and frags.
func (m *Trees) Asked(defs []api.Def) api.Doc {
	a := &asker{Trees: m, defs: defs, value: func(api.Ref) api.Value { return m.Value(2, false) }}
	ops := a.ops(1 + m.many(2, 20))
	return api.Doc{Ops: ops, Frags: a.frags}
}

// ops are so many: each has a name of its own, but one that is alone may have none.
func (a *asker) ops(n int) []api.Op {
	var l []api.Op
	for i := range n {
		x := api.Op{Kind: api.OpQuery, Name: "o" + strconv.Itoa(i), Vars: a.vars()}
		root := "Query"
		if a.Pick(2) == 0 {
			x.Kind, root = api.OpMutation, "Mutation"
		}
		if n == 1 && a.Pick(2) == 0 {
			x.Name = ""
		}
		for j := range x.Vars {
			x.Vars[j].Directives = nil
		}
		x.Sels = a.set(root, 4)
		l = append(l, x)
	}
	return l
}

// kind is that of a name's definition; -1: there is none.
func (a *asker) kind(name string) int {
	for _, x := range a.defs {
		if x.Name == name {
			return x.Kind
		}
	}
	return -1
}

// set is one selection or more of what a parent has, with at most so many others around one.
func (a *asker) set(parent string, deep int) []api.Sel {
	var l []api.Sel
	for range 1 + a.many(3, 6) {
		x := a.asked(parent, deep)
		x.Directives = a.known()
		l = append(l, x)
	}
	return l
}

func (a *asker) asked(parent string, deep int) api.Sel {
	switch n := a.Pick(8); {
	case n == 0 && deep > 0:
		return api.Sel{Kind: api.SelInline, Sels: a.set(parent, deep-1)}
	case n == 1 && deep > 0:
		return api.Sel{Kind: api.SelInline, On: parent, Sels: a.set(parent, deep-1)}
	case n == 2 && deep > 0:
		return api.Sel{Kind: api.SelSpread, Name: a.frag(parent, deep-1)}
	}
	x := api.Sel{Name: "__typename"}
	if out, ok := a.out(parent, deep); ok {
		x.Name, x.Args = out.Name, a.given(out.Args)
		if a.kind(out.Type.Name) == api.DefObject {
			x.Sels = a.set(out.Type.Name, deep-1)
		}
	}
	if a.Pick(2) == 0 {
		x.Alias = a.name()
	}
	return x
}

// frag is the name of a fragment for a parent: of one that is there, or of a new one. As only a whole one is spread again, none leads to itself.
func (a *asker) frag(parent string, deep int) string {
	var l []string
	for _, x := range a.frags {
		if x.On == parent {
			l = append(l, x.Name)
		}
	}
	if n := a.Pick(len(l) + 1); n < len(l) {
		return l[n]
	}
	x := api.Frag{On: parent, Sels: a.set(parent, deep)}
	x.Name = "f" + strconv.Itoa(len(a.frags))
	a.frags = append(a.frags, x)
	return x.Name
}

// out is a field that a parent has; if nothing more may stand within, one of which nothing is chosen.
func (a *asker) out(parent string, deep int) (api.Out, bool) {
	var l []api.Out
	for _, d := range a.defs {
		for _, x := range d.Outs {
			if d.Name == parent && (deep > 0 || a.kind(x.Type.Name) != api.DefObject) {
				l = append(l, x)
			}
		}
	}
	if n := a.Pick(len(l) + 1); n < len(l) {
		return l[n], true
	}
	return api.Out{}, false
}

// given are arguments: all that are needed, and some of the others.
func (a *asker) given(ins []api.In) []api.Arg {
	var l []api.Arg
	for _, x := range ins {
		v := a.value(x.Type)
		wraps := x.Type.Wraps
		needed := wraps != "" && wraps[len(wraps)-1] == '!'
		if needed && v.Kind == api.ValNull {
			v.Kind = api.ValTrue
		}
		if needed || a.Pick(3) == 0 {
			l = append(l, api.Arg{Name: x.Name, Value: v})
		}
	}
	return l
}

// known are directives that a selection may have.
func (a *asker) known() []api.Directive {
	var l []api.Directive
	for _, name := range []string{"skip", "include"} {
		if a.Pick(5) == 0 {
			ins := []api.In{{Name: "if", Type: api.Ref{Name: "Boolean", Wraps: "!"}}}
			l = append(l, api.Directive{Name: name, Args: a.given(ins)})
		}
	}
	return l
}
