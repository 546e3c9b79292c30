package coerce

import (
	"maps"
	"slices"

	"rhizome/api"
	"rhizome/gen"
	"rhizome/refs"
)

// types are definitions; each name is sought once.
type types struct {
	defs   []api.Def
	sought map[string]def
}

// def is a definition; its kind is below 0: there is none.
type def struct {
	kind   int
	words  map[string]int // where each of an enum's stands
	fields *fields        // an input's
}

func typesOf(defs []api.Def) types { return types{defs, map[string]def{}} }

// of is the definition of a name.
func (t types) of(name string) def {
	d, is := t.sought[name]
	if !is {
		d.kind = -1
		if at := gen.Find(t.defs, name); at >= 0 {
			x := t.defs[at]
			d = def{x.Kind, placesOf(x.Words), fieldsOf(x.Ins)}
		}
		t.sought[name] = d
	}
	return d
}

// placesOf says where each name stands first in a list.
func placesOf(l []string) map[string]int {
	first := map[string]int{}
	for i, name := range slices.Backward(l) {
		first[name] = i
	}
	return first
}

// membersOf says where the values of a JSON object's members stand; of any other value there are none.
func membersOf(j api.Json) map[string]int {
	if j.Kind != api.JsonObject {
		return nil
	}
	return placesOf(j.Keys[:min(len(j.Keys), len(j.List))])
}

// slot is where a value stands: a type, whose signs at the end are taken off.
type slot struct {
	must bool // may it not be null?
	list bool
	of   api.Ref // of a list what is in it
}

func slotOf(t api.Ref) slot {
	end, of := refs.Cut(t)
	must := end == '!'
	for end == '!' {
		end, of = refs.Cut(of)
	}
	return slot{must, end == '[', of}
}

// fields are Ins: of several with one name the first.
type fields struct {
	names  []string
	slots  []slot
	places map[string]int
	musts  int // how many may not be missing
}

func fieldsOf(l []api.In) *fields {
	f := &fields{places: map[string]int{}}
	for _, x := range l {
		if f.has(x.Name) {
			continue
		}
		f.places[x.Name] = len(f.names)
		f.names = append(f.names, x.Name)
		s := slotOf(x.Type)
		f.slots = append(f.slots, s)
		if s.must {
			f.musts++
		}
	}
	return f
}

func (f *fields) has(name string) bool {
	_, is := f.places[name]
	return is
}

// all: has each of the names a field?
func (f *fields) all(names []string) bool {
	return !slices.ContainsFunc(names, func(name string) bool { return !f.has(name) })
}

// object is one by the fields' names: of each that is among the names, what tell tells of the first place there, if it tells true. It gives up with e, if a field is not in it that may not be missing.
func (f *fields) object(names []string, e api.Errno, tell func(int, slot) (api.Json, bool)) api.Json {
	first := map[int]int{}
	for at, name := range slices.Backward(names) {
		if field, is := f.places[name]; is {
			first[field] = at
		}
	}
	o := api.Json{Kind: api.JsonObject}
	musts := 0
	// Only the fields that are named are gone over: many small objects may be of one type with many fields.
	for _, field := range slices.Sorted(maps.Keys(first)) {
		s := f.slots[field]
		v, says := tell(first[field], s)
		if says {
			o.Keys = append(o.Keys, f.names[field])
			o.List = append(o.List, v)
		} else if s.must {
			panic(e)
		}
		if s.must {
			musts++
		}
	}
	if musts < f.musts {
		panic(e)
	}
	return o
}
