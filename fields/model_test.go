package fields_test

import (
	"rhizome/api"
)

// The model asks each rule by itself, of lists of all that stands in a document; a set's parent it finds from within, by going outwards.

// modelSel is a selection, with the one around it, or, if there is none, the parent of its set.
type modelSel struct {
	api.Sel
	around *modelSel
	root   string
}

// modelDirectives are those of one place.
type modelDirectives struct {
	list    []api.Directive
	chosen  bool // at a selection
	defined bool // at an operation, a variable, a fragment
}

type model struct {
	d          api.Doc
	defs       []api.Def
	sels       []*modelSel
	directives []modelDirectives
}

// newModel takes selections out of a list to which what stands in them is put: no call within a call.
func newModel(d api.Doc, defs []api.Def) *model {
	m := &model{d: d, defs: defs}
	for _, x := range d.Ops {
		for _, s := range x.Sels {
			m.sels = append(m.sels, &modelSel{Sel: s, root: [...]string{"Query", "Mutation", ""}[modelKind(x.Kind)]})
		}
		m.directives = append(m.directives, modelDirectives{list: x.Directives, defined: true})
		for _, v := range x.Vars {
			m.directives = append(m.directives, modelDirectives{list: v.Directives, defined: true})
		}
	}
	for _, x := range d.Frags {
		for _, s := range x.Sels {
			m.sels = append(m.sels, &modelSel{Sel: s, root: x.On})
		}
		m.directives = append(m.directives, modelDirectives{list: x.Directives, defined: true})
	}
	for i := 0; i < len(m.sels); i++ {
		for _, s := range m.sels[i].Sels {
			m.sels = append(m.sels, &modelSel{Sel: s, around: m.sels[i]})
		}
		m.directives = append(m.directives, modelDirectives{list: m.sels[i].Directives, chosen: true})
	}
	return m
}

// modelKind is 0 of a query, 1 of a mutation, 2 of all others.
func modelKind(kind int) int {
	if kind == api.OpQuery {
		return 0
	}
	if kind == api.OpMutation {
		return 1
	}
	return 2
}

// parent is that of the set in which a selection stands.
func (m *model) parent(x *modelSel) string {
	if x.around == nil {
		return x.root
	}
	if x.around.Kind == api.SelField {
		if out := m.out(x.around); out != nil {
			return out.Type.Name
		}
	}
	if x.around.Kind == api.SelInline {
		if x.around.On != "" {
			return x.around.On
		}
		return m.parent(x.around)
	}
	return ""
}

// out is a field's, or nil.
func (m *model) out(x *modelSel) *api.Out {
	d := m.def(m.parent(x))
	if x.Kind != api.SelField || d == nil || d.Kind != api.DefObject {
		return nil
	}
	if x.Name == "__typename" {
		return &api.Out{Name: "__typename", Type: api.Ref{Name: "String", Wraps: "!"}}
	}
	for i := range d.Outs {
		if d.Outs[i].Name == x.Name {
			return &d.Outs[i]
		}
	}
	return nil
}

// def is a name's definition, or nil.
func (m *model) def(name string) *api.Def {
	for i := range m.defs {
		if m.defs[i].Name == name {
			if m.defs[i].Kind < 0 {
				return nil
			}
			return &m.defs[i]
		}
	}
	return nil
}

func modelKnown(x api.Directive) bool {
	switch x.Name {
	case "skip", "include":
		return true
	}
	return false
}

// modelGiven: is an argument given?
func modelGiven(l []api.Arg, name string) bool {
	for _, x := range l {
		if x.Name == name && x.Value.Kind != api.ValNull {
			return true
		}
	}
	return false
}

// modelTwice: do two arguments have one name?
func modelTwice(l []api.Arg) bool {
	for i := range l {
		for j := range i {
			if l[i].Name == l[j].Name {
				return true
			}
		}
	}
	return false
}

func (m *model) opName() bool {
	for i, x := range m.d.Ops {
		for j, y := range m.d.Ops {
			if i != j && (x.Name == "" || x.Name == y.Name) {
				return true
			}
		}
	}
	return false
}

func (m *model) opRoot() bool {
	for _, x := range m.d.Ops {
		root := map[int]string{api.OpQuery: "Query", api.OpMutation: "Mutation"}
		name, ok := root[x.Kind]
		if !ok {
			return true
		}
		if d := m.def(name); d == nil || d.Kind != api.DefObject {
			return true
		}
	}
	return false
}

func (m *model) fieldNone() bool {
	for _, x := range m.sels {
		if x.Kind == api.SelField && m.out(x) == nil && m.def(m.parent(x)) != nil {
			return true
		}
	}
	return false
}

func (m *model) fieldLeaf() bool {
	for _, x := range m.sels {
		out := m.out(x)
		if out == nil || m.def(out.Type.Name) == nil {
			continue
		}
		if m.def(out.Type.Name).Kind == api.DefObject {
			if len(x.Sels) == 0 {
				return true
			}
		} else if len(x.Sels) > 0 {
			return true
		}
	}
	return false
}

func (m *model) argNone() bool {
	for _, x := range m.sels {
		out := m.out(x)
		if out == nil {
			continue
		}
		for _, a := range x.Args {
			has := false
			for _, y := range out.Args {
				has = has || y.Name == a.Name
			}
			if !has {
				return true
			}
		}
	}
	for _, l := range m.directives {
		for _, x := range l.list {
			for _, a := range x.Args {
				if modelKnown(x) && a.Name != "if" {
					return true
				}
			}
		}
	}
	return false
}

func (m *model) argTwice() bool {
	for _, x := range m.sels {
		if modelTwice(x.Args) {
			return true
		}
	}
	for _, l := range m.directives {
		for _, x := range l.list {
			if modelTwice(x.Args) {
				return true
			}
		}
	}
	return false
}

func (m *model) argNeeded() bool {
	for _, x := range m.sels {
		out := m.out(x)
		if out == nil {
			continue
		}
		for _, y := range out.Args {
			if n := len(y.Type.Wraps); n > 0 && y.Type.Wraps[n-1] == '!' && !modelGiven(x.Args, y.Name) {
				return true
			}
		}
	}
	for _, l := range m.directives {
		for _, x := range l.list {
			if modelKnown(x) && !modelGiven(x.Args, "if") {
				return true
			}
		}
	}
	return false
}

// somewhere: is it so of the directives of a place?
func (m *model) somewhere(is func(modelDirectives) bool) bool {
	for _, l := range m.directives {
		if is(l) {
			return true
		}
	}
	return false
}

func (m *model) dirNone() bool {
	return m.somewhere(func(l modelDirectives) bool {
		for _, x := range l.list {
			if !modelKnown(x) {
				return true
			}
		}
		return false
	})
}

func (m *model) dirPlace() bool {
	return m.somewhere(func(l modelDirectives) bool {
		for _, x := range l.list {
			if modelKnown(x) && l.defined && !l.chosen {
				return true
			}
		}
		return false
	})
}

func (m *model) dirTwice() bool {
	return m.somewhere(func(l modelDirectives) bool {
		skips, includes := 0, 0
		for _, x := range l.list {
			if x.Name == "skip" {
				skips++
			}
			if x.Name == "include" {
				includes++
			}
		}
		return skips > 1 || includes > 1
	})
}

// modelCheck are the rules that are broken.
func modelCheck(d api.Doc, defs []api.Def) []api.Errno {
	m := newModel(d, defs)
	var l []api.Errno
	for i, rule := range []func() bool{m.opName, m.opRoot, m.fieldNone, m.fieldLeaf, m.argNone, m.argTwice, m.argNeeded, m.dirNone, m.dirPlace, m.dirTwice} {
		if rule() {
			l = append(l, api.ErrOpName+api.Errno(i))
		}
	}
	return l
}
