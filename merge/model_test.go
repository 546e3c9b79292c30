package merge_test

import (
	"strings"

	"rhizome/api"
)

// The model goes from place to place, as the chapter's words do: it takes each two fields that stand in each set by themselves, and each two that stand in two that meet, in either order.

// modelSel is a selection at its place, with the one around it, or, if there is none, the parent of its set; own is its own set.
type modelSel struct {
	api.Sel
	around *modelSel
	root   string
	own    []*modelSel
}

// modelMeeting is two fields that meet: wholly, or by shape.
type modelMeeting struct {
	x, y   *modelSel
	wholly bool
}

type model struct {
	defs  []api.Def
	frags []api.Frag
	of    [][]*modelSel // the fragments' sets
	sets  [][]*modelSel // all of them
	sels  []*modelSel
	seen  map[modelMeeting]bool
	bad   bool
}

// newModel takes selections out of a list to which what stands in them is put: no call within a call.
func newModel(d api.Doc, defs []api.Def) *model {
	m := &model{defs: defs, frags: d.Frags, seen: map[modelMeeting]bool{}}
	for _, x := range d.Frags {
		l := m.set(x.Sels, nil, x.On)
		m.of = append(m.of, l)
	}
	for _, x := range d.Ops {
		m.set(x.Sels, nil, map[int]string{api.OpQuery: "Query", api.OpMutation: "Mutation"}[x.Kind])
	}
	for i := 0; i < len(m.sels); i++ {
		x := m.sels[i]
		x.own = m.set(x.Sels, x, "")
	}
	return m
}

func (m *model) set(l []api.Sel, around *modelSel, root string) []*modelSel {
	var own []*modelSel
	for _, x := range l {
		own = append(own, &modelSel{Sel: x, around: around, root: root})
	}
	m.sels = append(m.sels, own...)
	m.sets = append(m.sets, own)
	return own
}

// parent is that of the set in which a selection stands.
func (m *model) parent(x *modelSel) string {
	switch {
	case x.around == nil:
		return x.root
	case x.around.Kind == api.SelField:
		if out := m.out(x.around); out != nil {
			return out.Type.Name
		}
	case x.around.Kind == api.SelInline && x.around.On == "":
		return m.parent(x.around)
	case x.around.Kind == api.SelInline:
		return x.around.On
	}
	return ""
}

// out is a field's, or nil.
func (m *model) out(x *modelSel) *api.Out {
	parent := m.parent(x)
	if !m.object(parent) {
		return nil
	}
	if x.Name == "__typename" {
		return &api.Out{Name: "__typename", Type: api.Ref{Name: "String", Wraps: "!"}}
	}
	for _, d := range m.defs {
		if d.Name == parent {
			for i := range d.Outs {
				if d.Outs[i].Name == x.Name {
					return &d.Outs[i]
				}
			}
			return nil
		}
	}
	return nil
}

// object: is a name's definition a DefObject?
func (m *model) object(name string) bool {
	for _, d := range m.defs {
		if d.Name == name {
			return d.Kind == api.DefObject
		}
	}
	return false
}

// fields are those of a set, each once.
func (m *model) fields(set []*modelSel) []*modelSel {
	all := [][]*modelSel{set}
	spread := map[string]bool{}
	var l []*modelSel
	for i := 0; i < len(all); i++ {
		for _, x := range all[i] {
			switch x.Kind {
			case api.SelField:
				l = append(l, x)
			case api.SelInline:
				all = append(all, x.own)
			case api.SelSpread:
				for at, f := range m.frags {
					if f.Name == x.Name && !spread[x.Name] {
						spread[x.Name] = true
						all = append(all, m.of[at])
					}
				}
			}
		}
	}
	return l
}

func modelAnswer(x *modelSel) string {
	if x.Alias != "" {
		return x.Alias
	}
	return x.Name
}

// meet asks what must hold of two fields that meet, and of those that meet for it.
func (m *model) meet(x, y *modelSel, wholly bool) {
	if m.bad || x == y || modelAnswer(x) != modelAnswer(y) || m.seen[modelMeeting{x, y, wholly}] {
		return
	}
	m.seen[modelMeeting{x, y, wholly}] = true
	if a, b := m.out(x), m.out(y); a != nil && b != nil && !m.oneShape(a.Type, b.Type) {
		m.bad = true
	}
	p, q := m.parent(x), m.parent(y)
	atOne := p == q || !m.object(p) || !m.object(q)
	if wholly && atOne && (x.Name != y.Name || !modelSameArgs(x.Args, y.Args)) {
		m.bad = true
	}
	for _, a := range m.fields(x.own) {
		for _, b := range m.fields(y.own) {
			m.meet(a, b, wholly && atOne)
		}
	}
}

// oneShape takes one sign after the other off both types.
func (m *model) oneShape(t, u api.Ref) bool {
	for _, sign := range []string{"!", "["} {
		a, b := strings.HasSuffix(t.Wraps, sign), strings.HasSuffix(u.Wraps, sign)
		if a != b {
			return false
		}
		if a {
			t.Wraps, u.Wraps = strings.TrimSuffix(t.Wraps, sign), strings.TrimSuffix(u.Wraps, sign)
			return m.oneShape(t, u)
		}
	}
	return t.Name == u.Name || m.object(t.Name) && m.object(u.Name)
}

func modelSameArgs(l, others []api.Arg) bool {
	for _, x := range l {
		found := false
		for _, y := range others {
			found = found || x.Name == y.Name && modelSame(x.Value, y.Value)
		}
		if !found {
			return false
		}
	}
	return len(l) == len(others)
}

func modelSame(v, w api.Value) bool {
	if v.Kind != w.Kind || v.Text != w.Text || len(v.Names) != len(w.Names) || len(v.List) != len(w.List) {
		return false
	}
	for i := range v.Names {
		if v.Names[i] != w.Names[i] {
			return false
		}
	}
	for i := range v.List {
		if !modelSame(v.List[i], w.List[i]) {
			return false
		}
	}
	return true
}

// all asks what must hold of all that meet.
func (m *model) all() {
	for _, set := range m.sets {
		l := m.fields(set)
		for _, x := range l {
			for _, y := range l {
				m.meet(x, y, true)
			}
		}
	}
}

// modelCheck are the rules that are broken.
func modelCheck(d api.Doc, defs []api.Def) []api.Errno {
	m := newModel(d, defs)
	m.all()
	if m.bad {
		return []api.Errno{140}
	}
	return nil
}

// modelMet is how many fields meet, of a document that does not break the rule.
func modelMet(d api.Doc, defs []api.Def) int {
	m := newModel(d, defs)
	m.all()
	return len(m.seen)
}
