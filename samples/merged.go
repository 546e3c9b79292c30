package samples

import (
	"slices"
	"strconv"

	"rhizome/api"
)

// Merged is a document as Valued makes them, that does not break the rule of package merge either: fields of one response name have one Name and the same arguments.
func (m *Trees) Merged(defs []api.Def) api.Doc {
	d := m.Valued(defs)
	first := map[string]api.Sel{}
	for _, x := range d.Ops {
		rename(x.Sels, first)
	}
	for _, x := range d.Frags {
		rename(x.Sels, first)
	}
	return d
}

// rename gives a field another alias if its response name was first that of an unlike one.
func rename(l []api.Sel, first map[string]api.Sel) {
	for i := range l {
		x := &l[i]
		for n := 0; x.Kind == api.SelField; n++ {
			f, is := first[answer(*x)]
			if !is {
				first[answer(*x)] = *x
			}
			if !is || f.Name == x.Name && slices.EqualFunc(f.Args, x.Args, sameArg) {
				break
			}
			x.Alias = x.Name + strconv.Itoa(n)
		}
		rename(x.Sels, first)
	}
}

func answer(x api.Sel) string {
	if x.Alias == "" {
		return x.Name
	}
	return x.Alias
}

func sameArg(x, y api.Arg) bool { return x.Name == y.Name && sameValue(x.Value, y.Value) }

func sameValue(x, y api.Value) bool {
	return x.Kind == y.Kind && x.Text == y.Text && slices.Equal(x.Names, y.Names) && slices.EqualFunc(x.List, y.List, sameValue)
}
