package merge

import (
	"cmp"
	"slices"

	"rhizome/api"
	"rhizome/sets"
)

// none is the number of a set that is not there.
const none = -1

// field is a field of a set, or several ones there that are alike: their response name, their parent, their Name and their arguments are the same. These meet wholly and are at one, so what stands in them meets as if it stood in one set; and whatever meets one of them meets the others, too, in the same way.
type field struct {
	sets.Placed
	object bool  // is its set's parent an object?
	shape  shape // of its Out
	own    int   // the number of its own set
}

// set has the fields that stand in it or in its inline fragments; those that its spreads bring are in other sets.
type set struct {
	fields  map[string][]int // their numbers, by response names
	spreads map[int]struct{} // the numbers of the fragments' sets
}

// table has a document's fields and sets at their numbers. The set of an inline fragment has none: its fields are all in the set around it.
type table struct {
	defs   []api.Def
	frags  map[string]int // the numbers of the fragments' sets, by the fragments' names
	fields []field
	sets   []set
}

// number makes a document's table. A fragment's place is its set's number, as it may be spread ahead of where it stands.
func number(d api.Doc, defs []api.Def) table {
	t := table{defs: defs, frags: map[string]int{}}
	for range d.Frags {
		t.newSet()
	}
	for at, x := range slices.Backward(d.Frags) {
		t.frags[x.Name] = at // of several with one name the first comes last, and stays
	}
	for at, x := range d.Frags {
		t.put(at, x.Sels, x.On)
	}
	for _, x := range d.Ops {
		t.put(t.newSet(), x.Sels, sets.Root(x.Kind))
	}
	return t
}

func (t *table) newSet() int {
	t.sets = append(t.sets, set{map[string][]int{}, map[int]struct{}{}})
	return len(t.sets) - 1
}

// put puts selections, which have this parent, into a set, and what stands in them where it belongs.
func (t *table) put(at int, l []api.Sel, parent string) {
	for _, x := range l {
		p := sets.Place(x, parent, t.defs)
		t.put(t.enter(at, p), p.Sels, p.Within())
	}
}

// enter puts a selection into a set, and tells the number of the set in which what stands in the selection belongs.
func (t *table) enter(at int, p sets.Placed) int {
	switch p.Kind {
	case api.SelInline:
		return at
	case api.SelField:
		f := &t.fields[t.field(at, p)]
		if f.own == none && len(p.Sels) > 0 {
			f.own = t.newSet()
		}
		return f.own
	case api.SelSpread:
		if to, is := t.frags[p.Name]; is {
			t.sets[at].spreads[to] = struct{}{}
		}
	}
	return t.newSet()
}

// field is a field's number in a set: that of one that is alike, if there is one. It is sought no further than to the first of the same parent: two of one parent that are not alike break the rule, whatever else there is.
func (t *table) field(at int, p sets.Placed) int {
	named := t.sets[at].fields
	answer := cmp.Or(p.Alias, p.Name)
	for _, n := range named[answer] {
		if f := &t.fields[n]; f.Parent == p.Parent {
			if alike(f.Sel, p.Sel) {
				return n
			}
			break
		}
	}
	named[answer] = append(named[answer], len(t.fields))
	t.fields = append(t.fields, field{p, t.object(p.Parent), t.shapeOf(p.Out.Type), none})
	return len(t.fields) - 1
}

// object: is a name's definition an object?
func (t *table) object(name string) bool { return sets.Kind(t.defs, name) == api.DefObject }
