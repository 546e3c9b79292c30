package valid_test

import (
	"slices"
	"strconv"
	"testing"

	"rhizome/api"
	"rhizome/valid"
)

// picks holds Pick against a place, and against the model.
func picks(t *testing.T, d api.Doc, name string, place int, want api.Errno) {
	t.Helper()
	if at, e := modelPick(d, name); at != place || e != want {
		t.Errorf("%q of %s: the model tells %d, %d, not %d, %d", name, short(d), at, e, place, want)
	}
	d, doc := untouched(t, d)
	if at, e := valid.Pick(d, name); at != place || e != want {
		t.Errorf("%q of %s: %d, %d, not %d, %d", name, short(d), at, e, place, want)
	}
	doc()
}

// modelPick is Pick as the chapter's words say it, one by one.
func modelPick(d api.Doc, name string) (int, api.Errno) {
	if name == "" {
		if len(d.Ops) == 1 {
			return 0, api.OK
		}
		return 0, api.ErrValidPick
	}
	for i, x := range d.Ops {
		if x.Name == name {
			return i, api.OK
		}
	}
	return 0, api.ErrValidPick
}

// called are operations of these names.
func called(names ...string) api.Doc {
	var d api.Doc
	for _, x := range names {
		d.Ops = append(d.Ops, api.Op{Name: x})
	}
	return d
}

// P15.2: without a name the one operation is meant that there is, whatever its Name.
func TestPickNone(t *testing.T) {
	for _, text := range []string{"{a}", "query{a}", "query A{a}", "mutation A{a}", "subscription A{a}", "{a} fragment f on T{a}", "fragment f on T{a} query A{a} fragment A on T{a}"} {
		picks(t, read(t, text), "", 0, api.OK)
	}
	for _, text := range []string{"query A{a} query B{a}", "{a} query B{a}", "query A{a} query{a}", "{a}{a}", "{a} query A{a} mutation B{a}", "query A{a} query A{a}", "query A{a}{a}{a}", "fragment f on T{a}"} {
		picks(t, read(t, text), "", 0, api.ErrValidPick)
	}
	picks(t, api.Doc{}, "", 0, api.ErrValidPick)
	picks(t, api.Doc{Ops: []api.Op{}}, "", 0, api.ErrValidPick)
	picks(t, api.Doc{Frags: []api.Frag{{}}}, "", 0, api.ErrValidPick)
	picks(t, called(""), "", 0, api.OK)
	picks(t, called("", ""), "", 0, api.ErrValidPick)
	picks(t, called("A", "", "B"), "", 0, api.ErrValidPick)
}

// P15.2: with a name the first operation of that Name is meant, and where none has it, none, be it the only one.
func TestPickName(t *testing.T) {
	d := read(t, "query A{a} mutation B{a} subscription C{a} fragment F on T{a} fragment A on T{a}")
	for i, name := range []string{"A", "B", "C"} {
		picks(t, d, name, i, api.OK)
	}
	for _, name := range []string{"D", "a", "F", "T", "AB", "A ", " A", "A\x00", "query"} {
		picks(t, d, name, 0, api.ErrValidPick)
	}
	twice := called("", "A", "B", "A", "B", "B")
	picks(t, twice, "A", 1, api.OK)
	picks(t, twice, "B", 2, api.OK)
	picks(t, twice, "C", 0, api.ErrValidPick)
	for _, one := range []api.Doc{read(t, "{a}"), read(t, "query B{a}"), read(t, "query B{a} fragment A on T{a}"), called("AA"), {}, {Frags: []api.Frag{{Name: "A"}}}} {
		picks(t, one, "A", 0, api.ErrValidPick)
	}
	picks(t, read(t, "query A{a}"), "A", 0, api.OK)
	picks(t, read(t, "fragment B on T{a} query A{a}"), "A", 0, api.OK)
}

// Names that begin alike, or end so, are not the same; nor are those that only look so.
func TestPickAlike(t *testing.T) {
	names := []string{"ab", "abc", "a", "b", "bc", "A", "Ab", "é", "e\u0301", "\xc3", "\xff", "\x00", "ab\x00", " ab"}
	for i, name := range names {
		picks(t, called(names...), name, i, api.OK)
		picks(t, called(append(slices.Clone(names[:i]), names[i+1:]...)...), name, 0, api.ErrValidPick)
	}
	picks(t, called("ABC", "abcd", "abc", "abc"), "abc", 2, api.OK)
}

// All rows of up to four operations of four names, of all kinds, with and without fragments of these names.
func TestPickShort(t *testing.T) {
	names := []string{"", "a", "ab", "b"}
	frags := []api.Frag{{Name: "a"}, {Name: "c"}, {}}
	for i, row := range rows(4, names) {
		d := called(row...)
		for j := range d.Ops {
			d.Ops[j].Kind = (i+j)%(api.OpKinds+2) - 1
		}
		for _, d.Frags = range [][]api.Frag{nil, frags} {
			for _, name := range []string{"", "a", "ab", "b", "c", "abc"} {
				at, e := modelPick(d, name)
				picks(t, d, name, at, e)
			}
		}
	}
}

// Many operations, and long names.
func TestPickMany(t *testing.T) {
	const many = 20000
	var d api.Doc
	long := make([]byte, many)
	for i := range many {
		d.Ops = append(d.Ops, api.Op{Name: "q" + strconv.Itoa(i)})
	}
	for _, i := range []int{0, 1, 9, 10, many / 2, many - 1} {
		picks(t, d, "q"+strconv.Itoa(i), i, api.OK)
	}
	picks(t, d, "q"+strconv.Itoa(many), 0, api.ErrValidPick)
	picks(t, d, "", 0, api.ErrValidPick)
	picks(t, called(string(long[1:]), string(long)), string(long), 1, api.OK)
}
