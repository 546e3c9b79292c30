package sets_test

import (
	"reflect"
	"slices"
	"testing"

	"rhizome/api"
	"rhizome/gen"
	"rhizome/sdl"
	"rhizome/sets"
	"rhizome/syntax"
)

// read are the definitions of a schema's text, and the tree of a document's.
func read(t *testing.T, types, text string) (api.Doc, []api.Def) {
	t.Helper()
	s, _, e := sdl.Parse(types)
	if e != api.OK {
		t.Fatalf("%q: %d", types, e)
	}
	defs, e := gen.Types(s)
	if e != api.OK {
		t.Fatalf("%q: %d", types, e)
	}
	d, _, e := syntax.Parse(text)
	if e != api.OK {
		t.Fatalf("%q: %d", text, e)
	}
	return d, defs
}

// told writes each selection as its set's parent, its name or condition, and the type of its Out.
func told(d api.Doc, defs []api.Def) []string {
	var l []string
	for x := range sets.All(d, defs) {
		text := x.Parent + "." + x.Name + x.On
		if x.HasOut {
			text += ":" + x.Out.Type.Name
		}
		l = append(l, text)
	}
	return l
}

func TestAll(t *testing.T) {
	d, defs := read(t, "type T{a:Int! b:[T!]! u:U} type U{c:Float}", "query x{getT(id:1){a u{c nope{x}} ...f}} mutation y{deleteU(filter:{}) ...{__typename ...on T{b{a}}}} subscription z{a{b}} fragment f on U{c{d} ...on Nope{x ...{y}}}")
	want := []string{"Query.getT:T", "T.a:Int", "T.u:U", "U.c:Float", "U.nope", ".x", "T.f", "Mutation.deleteU:Int", "Mutation.", "Mutation.__typename:String", "Mutation.T", "T.b:T", "T.a:Int", ".a", ".b", "U.c:Float", "Float.d", "U.Nope", "Nope.x", "Nope.", "Nope.y"}
	if l := told(d, defs); !slices.Equal(l, want) {
		t.Errorf("%q, not %q", l, want)
	}
	if l := told(api.Doc{}, defs); l != nil {
		t.Errorf("%q", l)
	}
	for x := range sets.All(d, defs) {
		if out, ok := gen.Out(defs, x.Parent, x.Name); x.Kind == api.SelField && (ok != x.HasOut || !reflect.DeepEqual(out, x.Out)) {
			t.Errorf("%q of %q: %v, not %v", x.Name, x.Parent, x.Out, out)
		}
	}
}

// Selections of any kind: only a field has an Out, and only what stands in fields and inline fragments has a parent.
func TestAllKinds(t *testing.T) {
	_, defs := read(t, "type T{a:Int! b:[T!]!}", "{a}")
	for kind := -1; kind <= api.SelKinds; kind++ {
		x := api.Sel{Kind: kind, Name: "b", On: "Query", Sels: []api.Sel{{Name: "a"}}}
		want := []string{"T.bQuery", ".a"}
		switch kind {
		case api.SelField:
			want = []string{"T.bQuery:T", "T.a:Int"}
		case api.SelInline:
			want = []string{"T.bQuery", "Query.a"}
		}
		if l := told(api.Doc{Frags: []api.Frag{{On: "T", Sels: []api.Sel{x}}}}, defs); !slices.Equal(l, want) {
			t.Errorf("%d: %q, not %q", kind, l, want)
		}
	}
}

// Who has seen enough may leave at any selection.
func TestAllLeft(t *testing.T) {
	d, defs := read(t, "type T{a:Int! b:[T!]!}", "query x{queryT{a b{a} ...{a}} __typename} query y{__typename} fragment f on T{a b{a}} fragment g on T{a}")
	all := told(d, defs)
	for n := range len(all) {
		var l []string
		for x := range sets.All(d, defs) {
			l = append(l, x.Name)
			if len(l) > n {
				break
			}
		}
		if len(l) != n+1 {
			t.Errorf("%d, not %d", len(l), n+1)
		}
	}
}

// A selection as it stands in a set of any parent, and the parent of its own set.
func TestPlace(t *testing.T) {
	_, defs := read(t, "type T{a:Int! u:U} type U{c:Float}", "{a}")
	for _, c := range []struct {
		x            api.Sel
		parent, of   string
		has          bool
		within, name string
	}{
		{api.Sel{Name: "u", On: "Query"}, "T", "U", true, "U", "u"}, {api.Sel{Alias: "u", Name: "a"}, "T", "Int", true, "Int", "a"}, {api.Sel{Name: "__typename"}, "U", "String", true, "String", "__typename"},
		{api.Sel{Name: "u"}, "U", "", false, "", ""}, {api.Sel{Name: "u"}, "nope", "", false, "", ""}, {api.Sel{Name: "u"}, "", "", false, "", ""},
		{api.Sel{Kind: api.SelInline, Name: "u"}, "T", "", false, "T", ""}, {api.Sel{Kind: api.SelInline, On: "nope"}, "T", "", false, "nope", ""}, {api.Sel{Kind: api.SelInline}, "", "", false, "", ""},
		{api.Sel{Kind: api.SelSpread, Name: "u", On: "U"}, "T", "", false, "", ""}, {api.Sel{Kind: -1, Name: "u", On: "U"}, "T", "", false, "", ""}, {api.Sel{Kind: api.SelKinds, Name: "u"}, "T", "", false, "", ""},
	} {
		p := sets.Place(c.x, c.parent, defs)
		if !reflect.DeepEqual(p.Sel, c.x) || p.Parent != c.parent || p.HasOut != c.has || p.Out.Name != c.name || p.Out.Type.Name != c.of || p.Within() != c.within {
			t.Errorf("%v of %q: %v, %q", c.x, c.parent, p, p.Within())
		}
	}
}

func TestRoot(t *testing.T) {
	for kind, want := range map[int]string{api.OpQuery: "Query", api.OpMutation: "Mutation", api.OpSubscription: "", -1: "", api.OpKinds: "", 9: ""} {
		if name := sets.Root(kind); name != want {
			t.Errorf("%d: %q, not %q", kind, name, want)
		}
	}
}

func TestKnown(t *testing.T) {
	for name, want := range map[string]bool{"skip": true, "include": true, "": false, "Skip": false, "skip ": false, "if": false, "deprecated": false, "skipinclude": false} {
		if is := sets.Known(api.Directive{Name: name}); is != want {
			t.Errorf("%q: %v", name, is)
		}
	}
	want := []api.In{{Name: "if", Type: api.Ref{Name: "Boolean", Wraps: "!"}}}
	if l := sets.KnownArgs(); !slices.Equal(l, want) {
		t.Errorf("%v", l)
	}
	sets.KnownArgs()[0].Name = "x"
	if l := sets.KnownArgs(); !slices.Equal(l, want) {
		t.Errorf("%v", l)
	}
}

func TestKind(t *testing.T) {
	for kind := -3; kind < api.DefKinds+3; kind++ {
		defs := []api.Def{{Name: "T", Kind: kind}, {Name: "T", Kind: api.DefEnum}, {Name: "", Kind: kind}}
		for name, want := range map[string]int{"T": max(kind, -1), "": max(kind, -1), "U": -1, "t": -1} {
			if got := sets.Kind(defs, name); got != want {
				t.Errorf("%q: %d, not %d", name, got, want)
			}
		}
	}
	if kind := sets.Kind(nil, "T"); kind != -1 {
		t.Error(kind)
	}
}

// The names of spreads, wherever they stand, each as often as it does; who has seen enough may leave.
func TestSpreads(t *testing.T) {
	d, _ := read(t, "type T{a:Int!}", "{a ...b c{...d ...{...b e:f{...on g{...h}}}} ...i}")
	l := d.Ops[0].Sels
	l[1].Sels = []api.Sel{{Kind: api.SelSpread, Name: "x"}, {Kind: -1, Name: "nope", Sels: []api.Sel{{Kind: api.SelSpread}}}}
	l = append(l, api.Sel{Kind: api.SelKinds, Name: "nope"})
	want := []string{"b", "x", "", "d", "b", "h", "i"}
	if got := slices.Collect(sets.Spreads(l)); !slices.Equal(got, want) {
		t.Errorf("%q, not %q", got, want)
	}
	for n := range want {
		var got []string
		for x := range sets.Spreads(l) {
			got = append(got, x)
			if len(got) > n {
				break
			}
		}
		if !slices.Equal(got, want[:n+1]) {
			t.Errorf("%q, not %q", got, want[:n+1])
		}
	}
	if got := slices.Collect(sets.Spreads(nil)); got != nil {
		t.Errorf("%q", got)
	}
}

// Of several fragments with one name the first counts.
func TestFrags(t *testing.T) {
	l := []api.Frag{{Name: "b", On: "1"}, {Name: "a", On: "2"}, {On: "3"}, {Name: "a", On: "4"}, {Name: "b", On: "5"}, {Name: "a", On: "6"}}
	want := map[string]api.Frag{"b": l[0], "a": l[1], "": l[2]}
	if m := sets.Frags(l); !reflect.DeepEqual(m, want) {
		t.Errorf("%v, not %v", m, want)
	}
	if m := sets.Frags(nil); len(m) != 0 {
		t.Errorf("%v", m)
	}
}
