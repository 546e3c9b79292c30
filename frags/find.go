package frags

import (
	"rhizome/api"
	"rhizome/sets"
)

// meeting is a condition in a set that has this parent.
type meeting struct{ parent, condition string }

// finds counts what stands in a document, so that each rule is asked once of all that is alike.
type finds struct {
	conditions map[string]int
	spreads    map[string]int // by their names
	meetings   map[meeting]int
}

func find(d api.Doc, defs []api.Def, first map[string]api.Frag) finds {
	f := finds{map[string]int{}, map[string]int{}, map[meeting]int{}}
	for _, x := range d.Frags {
		f.conditions[x.On]++
	}
	for x := range sets.All(d, defs) {
		switch {
		case x.Kind == api.SelInline && x.On != "":
			f.conditions[x.On]++
			f.meetings[meeting{x.Parent, x.On}]++
		case x.Kind == api.SelSpread:
			f.spreads[x.Name]++
			if has(first, x.Name) {
				f.meetings[meeting{x.Parent, first[x.Name].On}]++
			}
		}
	}
	return f
}

// cyclic: does a fragment reach itself? What no spread leads to is taken away, with its own spreads, until nothing more can be: what is left then leads round. No call stands within a call here, as a row of fragments may be longer than a stack is deep.
func cyclic(first map[string]api.Frag) bool {
	leading := map[string]int{} // how many spreads lead there, of the fragments that are left
	var free []string
	lead := func(from string, by int) {
		for to := range sets.Spreads(first[from].Sels) {
			leading[to] += by
			if leading[to] == 0 && has(first, to) {
				free = append(free, to)
			}
		}
	}
	for name := range first {
		lead(name, 1)
	}
	for name := range first {
		if leading[name] == 0 {
			free = append(free, name)
		}
	}
	left := len(first)
	for ; len(free) > 0; left-- {
		name := free[len(free)-1]
		free = free[:len(free)-1]
		lead(name, -1)
	}
	return left > 0
}

func object(defs []api.Def, name string) bool { return sets.Kind(defs, name) == api.DefObject }

func has[K comparable, V any](m map[K]V, key K) bool {
	_, is := m[key]
	return is
}

// some: is it so of one of a map's keys?
func some[K comparable, V any](m map[K]V, is func(K) bool) bool {
	for key := range m {
		if is(key) {
			return true
		}
	}
	return false
}
