package fields

import (
	"iter"
	"slices"
	"strings"

	"rhizome/api"
	"rhizome/sets"
)

// broken says of each rule that is broken how often it was seen to be.
type broken map[api.Errno]int

func (b broken) note(rule api.Errno, is bool) {
	if is {
		b[rule]++
	}
}

func (b broken) operations(l []api.Op, defs []api.Def) {
	nameless := func(x api.Op) bool { return x.Name == "" }
	b.note(api.ErrOpName, twice(l, func(x api.Op) string { return x.Name }))
	b.note(api.ErrOpName, len(l) > 1 && slices.ContainsFunc(l, nameless))
	for _, x := range l {
		root := sets.Root(x.Kind)
		b.note(api.ErrOpRoot, root == "" || sets.Kind(defs, root) != api.DefObject)
	}
}

func (b broken) field(x sets.Placed, defs []api.Def) {
	if !x.HasOut {
		b.note(api.ErrFieldNone, sets.Kind(defs, x.Parent) >= 0)
		return
	}
	kind := sets.Kind(defs, x.Out.Type.Name)
	b.note(api.ErrFieldLeaf, kind >= 0 && (kind == api.DefObject) != (len(x.Sels) > 0))
	b.arguments(x.Args, x.Out.Args)
}

// directives are those of one place.
func (b broken) directives(l []api.Directive) {
	for _, x := range l {
		b.note(api.ErrArgTwice, argTwice(x.Args))
		b.note(api.ErrDirNone, !sets.Known(x))
		if sets.Known(x) {
			b.arguments(x.Args, sets.KnownArgs())
		}
	}
	unknown := func(x api.Directive) bool { return !sets.Known(x) }
	l = slices.DeleteFunc(slices.Clone(l), unknown)
	b.note(api.ErrDirTwice, twice(l, func(x api.Directive) string { return x.Name }))
}

// arguments holds those that stand there against those that there are.
func (b broken) arguments(l []api.Arg, ins []api.In) {
	there, given := map[string]int{}, map[string]int{}
	for _, x := range ins {
		there[x.Name]++
	}
	for _, x := range l {
		b.note(api.ErrArgNone, there[x.Name] == 0)
		if x.Value.Kind != api.ValNull {
			given[x.Name]++
		}
	}
	for _, x := range ins {
		b.note(api.ErrArgNeeded, strings.HasSuffix(x.Type.Wraps, "!") && given[x.Name] == 0)
	}
}

// defining tells the directives of each place where no known one may stand: operations, variables, fragments' definitions.
func defining(d api.Doc) iter.Seq[[]api.Directive] {
	return func(yield func([]api.Directive) bool) {
		for _, x := range d.Ops {
			if !yield(x.Directives) {
				return
			}
			for _, v := range x.Vars {
				if !yield(v.Directives) {
					return
				}
			}
		}
		for _, x := range d.Frags {
			if !yield(x.Directives) {
				return
			}
		}
	}
}

func argTwice(l []api.Arg) bool {
	return twice(l, func(x api.Arg) string { return x.Name })
}

// twice: do two of a list have the same name?
func twice[T any](l []T, name func(T) string) bool {
	seen := map[string]int{}
	for _, x := range l {
		seen[name(x)]++
	}
	return len(seen) < len(l)
}
