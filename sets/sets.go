// Package sets says what chapter 11 calls sets, their parents, their fields' Outs and known directives, and what chapter 12 calls the fragment of a name, for the layers that ask rules of a document: see shared/doc/11-fields.md and shared/doc/12-frags.md.
package sets

import (
	"iter"
	"slices"

	"rhizome/api"
	"rhizome/gen"
)

// Placed is a selection as it stands in a set.
type Placed struct {
	api.Sel
	Parent string // the set's
	Out    api.Out
	HasOut bool // only a field may have one
}

// All tells each selection of a document, however deep it stands.
func All(d api.Doc, defs []api.Def) iter.Seq[Placed] {
	return func(yield func(Placed) bool) {
		for _, x := range d.Ops {
			if !each(x.Sels, Root(x.Kind), defs, yield) {
				return
			}
		}
		for _, x := range d.Frags {
			if !each(x.Sels, x.On, defs, yield) {
				return
			}
		}
	}
}

// Place is a selection as it stands in a set that has this parent.
func Place(x api.Sel, parent string, defs []api.Def) Placed {
	p := Placed{Sel: x, Parent: parent}
	if x.Kind == api.SelField {
		p.Out, p.HasOut = gen.Out(defs, parent, x.Name)
	}
	return p
}

// Within is the parent of the selection's own set.
func (p Placed) Within() string {
	switch {
	case p.Kind == api.SelField:
		return p.Out.Type.Name
	case p.Kind == api.SelInline && p.On == "":
		return p.Parent
	case p.Kind == api.SelInline:
		return p.On
	}
	return ""
}

// Spreads tells the name of each spread in selections, however deep it stands.
func Spreads(l []api.Sel) iter.Seq[string] {
	return func(yield func(string) bool) { spreads(l, yield) }
}

// Frags are the fragments of a list by their names: of several with one name the first.
func Frags(l []api.Frag) map[string]api.Frag {
	first := map[string]api.Frag{}
	for _, x := range slices.Backward(l) {
		first[x.Name] = x
	}
	return first
}

// Root is the parent of an operation's set, of the operation's kind; empty: it has none.
func Root(kind int) string {
	switch kind {
	case api.OpQuery:
		return "Query"
	case api.OpMutation:
		return "Mutation"
	}
	return ""
}

// Known: is a directive a known one?
func Known(x api.Directive) bool { return x.Name == "skip" || x.Name == "include" }

// KnownArgs are the arguments of each known directive.
func KnownArgs() []api.In {
	return []api.In{{Name: "if", Type: api.Ref{Name: "Boolean", Wraps: "!"}}}
}

// Kind is that of a name's definition; -1: there is none.
func Kind(defs []api.Def, name string) int {
	at := gen.Find(defs, name)
	if at < 0 {
		return -1
	}
	return max(defs[at].Kind, -1)
}

// each hands on the one yield, so that what stands deep costs no more than what does not.
func each(l []api.Sel, parent string, defs []api.Def, yield func(Placed) bool) bool {
	for _, x := range l {
		p := Place(x, parent, defs)
		if !yield(p) || !each(x.Sels, p.Within(), defs, yield) {
			return false
		}
	}
	return true
}

func spreads(l []api.Sel, yield func(string) bool) bool {
	for _, x := range l {
		if x.Kind == api.SelSpread && !yield(x.Name) || !spreads(x.Sels, yield) {
			return false
		}
	}
	return true
}
