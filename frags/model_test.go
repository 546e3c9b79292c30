package frags_test

import (
	"rhizome/api"
)

// The model asks each rule by itself, of lists of all that stands in a document; a set's parent it finds from within, by going outwards; what reaches what it keeps as a square of all fragments.

// modelSel is a selection, with the one around it, or, if there is none, the parent of its set; in is the place of the fragment in which it stands, or -1.
type modelSel struct {
	api.Sel
	around *modelSel
	root   string
	in     int
}

type model struct {
	frags []api.Frag
	defs  []api.Def
	sels  []*modelSel
}

// newModel takes selections out of a list to which what stands in them is put: no call within a call.
func newModel(d api.Doc, defs []api.Def) *model {
	m := &model{frags: d.Frags, defs: defs}
	for _, x := range d.Ops {
		root := ""
		if x.Kind == api.OpQuery {
			root = "Query"
		} else if x.Kind == api.OpMutation {
			root = "Mutation"
		}
		for _, s := range x.Sels {
			m.sels = append(m.sels, &modelSel{Sel: s, root: root, in: -1})
		}
	}
	for i, x := range d.Frags {
		for _, s := range x.Sels {
			m.sels = append(m.sels, &modelSel{Sel: s, root: x.On, in: i})
		}
	}
	for i := 0; i < len(m.sels); i++ {
		for _, s := range m.sels[i].Sels {
			m.sels = append(m.sels, &modelSel{Sel: s, around: m.sels[i], in: m.sels[i].in})
		}
	}
	return m
}

// parent is that of the set in which a selection stands.
func (m *model) parent(x *modelSel) string {
	switch {
	case x.around == nil:
		return x.root
	case x.around.Kind == api.SelField:
		return m.typeOf(x.around)
	case x.around.Kind == api.SelInline && x.around.On == "":
		return m.parent(x.around)
	case x.around.Kind == api.SelInline:
		return x.around.On
	}
	return ""
}

// typeOf is the name of the type of a field's Out, or empty.
func (m *model) typeOf(x *modelSel) string {
	d := m.def(m.parent(x))
	if d == nil || d.Kind != api.DefObject {
		return ""
	}
	if x.Name == "__typename" {
		return "String"
	}
	for _, y := range d.Outs {
		if y.Name == x.Name {
			return y.Type.Name
		}
	}
	return ""
}

// def is a name's definition, or nil.
func (m *model) def(name string) *api.Def {
	for i := range m.defs {
		if m.defs[i].Name == name {
			if m.defs[i].Kind < 0 {
				return nil
			}
			return &m.defs[i]
		}
	}
	return nil
}

func (m *model) object(name string) bool {
	d := m.def(name)
	return d != nil && d.Kind == api.DefObject
}

// frag is the place of the fragment of a name, or -1.
func (m *model) frag(name string) int {
	for i, x := range m.frags {
		if x.Name == name {
			return i
		}
	}
	return -1
}

// conditions are all of them.
func (m *model) conditions() []string {
	var l []string
	for _, x := range m.frags {
		l = append(l, x.On)
	}
	for _, x := range m.sels {
		if x.Kind == api.SelInline && x.On != "" {
			l = append(l, x.On)
		}
	}
	return l
}

func (m *model) twice() bool {
	for i, x := range m.frags {
		for _, y := range m.frags[:i] {
			if x.Name == y.Name {
				return true
			}
		}
	}
	return false
}

func (m *model) noType() bool {
	for _, x := range m.conditions() {
		if m.def(x) == nil {
			return true
		}
	}
	return false
}

func (m *model) noObject() bool {
	for _, x := range m.conditions() {
		if d := m.def(x); d != nil && d.Kind != api.DefObject {
			return true
		}
	}
	return false
}

func (m *model) unused() bool {
	for _, x := range m.frags {
		used := false
		for _, s := range m.sels {
			used = used || s.Kind == api.SelSpread && s.Name == x.Name
		}
		if !used {
			return true
		}
	}
	return false
}

func (m *model) none() bool {
	for _, s := range m.sels {
		if s.Kind == api.SelSpread && m.frag(s.Name) < 0 {
			return true
		}
	}
	return false
}

// reach says of each two fragments, by their places, whether the one reaches the other.
func (m *model) reach() [][]bool {
	to := make([][]bool, len(m.frags))
	for i := range to {
		to[i] = make([]bool, len(m.frags))
	}
	for _, s := range m.sels {
		if at := m.frag(s.Name); s.Kind == api.SelSpread && s.in >= 0 && at >= 0 {
			to[s.in][at] = true
		}
	}
	for over := range to {
		for i := range to {
			for j := range to {
				to[i][j] = to[i][j] || to[i][over] && to[over][j]
			}
		}
	}
	return to
}

func (m *model) cycle() bool {
	to := m.reach()
	for i, x := range m.frags {
		if m.frag(x.Name) == i && to[i][i] {
			return true
		}
	}
	return false
}

func (m *model) spread() bool {
	for _, s := range m.sels {
		on := ""
		switch at := m.frag(s.Name); {
		case s.Kind == api.SelInline && s.On != "":
			on = s.On
		case s.Kind == api.SelSpread && at >= 0:
			on = m.frags[at].On
		default:
			continue
		}
		if parent := m.parent(s); m.object(parent) && m.object(on) && parent != on {
			return true
		}
	}
	return false
}

// modelCheck are the rules that are broken.
func modelCheck(d api.Doc, defs []api.Def) []api.Errno {
	m := newModel(d, defs)
	var l []api.Errno
	for i, rule := range []func() bool{m.twice, m.noType, m.noObject, m.unused, m.none, m.cycle, m.spread} {
		if rule() {
			l = append(l, api.ErrFragTwice+api.Errno(i))
		}
	}
	return l
}
