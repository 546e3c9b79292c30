package merge_test

import (
	"regexp"
	"slices"
	"testing"

	"rhizome/api"
	"rhizome/samples"
)

// typed are definitions of which A has a field p of the one type, and B a field q of the other one.
func typed(one, other api.Ref, more ...api.Def) []api.Def {
	return append([]api.Def{
		{Name: "Query", Kind: api.DefObject},
		{Name: "A", Kind: api.DefObject, Outs: []api.Out{{Name: "p", Type: one}}},
		{Name: "B", Kind: api.DefObject, Outs: []api.Out{{Name: "q", Type: other}}},
	}, more...)
}

// twoParents is a document in which those two meet, in sets of unlike parents.
func twoParents() api.Doc {
	on := func(parent, name string) api.Sel {
		return api.Sel{Kind: api.SelInline, On: parent, Sels: []api.Sel{{Alias: "x", Name: name}}}
	}
	return api.Doc{Ops: []api.Op{{Sels: []api.Sel{on("A", "p"), on("B", "q")}}}}
}

// shaped holds what Check says of two types against what is asked.
func shaped(t *testing.T, one, other api.Ref, more []api.Def, want bool) {
	t.Helper()
	rules := bad
	if want {
		rules = no
	}
	for _, defs := range [][]api.Def{typed(one, other, more...), typed(other, one, more...)} {
		if l := checks(t, twoParents(), defs); !slices.Equal(l, rules) {
			t.Errorf("%v and %v: %v", one, other, l)
		}
	}
}

// kinds are definitions of all kinds.
func kinds() []api.Def {
	var l []api.Def
	for i, kind := range []int{api.DefObject, api.DefObject, api.DefScalar, api.DefEnum, api.DefInput, -1, api.DefKinds} {
		l = append(l, api.Def{Name: string(rune('R' + i)), Kind: kind})
	}
	return l
}

// P14.1: types of one shape.
func TestShapes(t *testing.T) {
	ref := func(name, wraps string) api.Ref { return api.Ref{Name: name, Wraps: wraps} }
	for _, c := range []struct {
		one, other string
		want       bool
	}{
		{"", "", true}, {"!", "!", true}, {"[", "[", true}, {"![!", "![!", true}, {"[[", "[[", true}, {"!!", "!!", true},
		{"!", "", false}, {"[", "", false}, {"[", "!", false}, {"![", "[", false}, {"[!", "[", false}, {"![", "[!", false}, {"![!", "![", false}, {"![!", "[!", false}, {"[[", "[", false}, {"!!", "!", false}, {"![!", "!", false}, {"![![", "![", false},
		// Any other sign is no end, and what is within it is none.
		{"?", "", true}, {"?", "x", true}, {"?!", "!", true}, {"?![!", "![!", true}, {"!?", "", true}, {"[?", "!?", true}, {"]", "", true}, {"! ", "", true}, {"é[", "[", true}, {"\xff!", "!", true}, {"!?!", "!", true}, {"?!", "?[", false}, {"!?", "!", false}, {"[?", "[", false}, {"\x00", "!", false},
	} {
		for _, name := range []string{"T", "R", "nope", "", "!", "T!"} {
			shaped(t, ref(name, c.one), ref(name, c.other), kinds(), c.want)
			shaped(t, ref(name, c.one), ref(name, c.other), nil, c.want)
		}
		shaped(t, ref("R", c.one), ref("S", c.other), kinds(), c.want)
		shaped(t, ref("R", c.one), ref("S", c.other), nil, false)
		shaped(t, ref("R", c.one), ref("T", c.other), kinds(), false)
	}
	// Unlike Names are of one shape if both are objects.
	for _, x := range kinds() {
		for _, y := range kinds() {
			both := x.Kind == api.DefObject && y.Kind == api.DefObject
			shaped(t, ref(x.Name, "!"), ref(y.Name, "!"), kinds(), both || x.Name == y.Name)
			shaped(t, ref(x.Name, ""), ref(y.Name, "["), kinds(), false)
		}
		shaped(t, ref(x.Name, ""), ref("nope", ""), kinds(), false)
		shaped(t, ref(x.Name, ""), ref("", ""), kinds(), false)
		// The first definition of a name counts.
		later := append(kinds(), api.Def{Name: x.Name, Kind: api.DefObject}, api.Def{Name: x.Name, Kind: api.DefInput})
		shaped(t, ref(x.Name, ""), ref("R", ""), later, x.Kind == api.DefObject)
	}
	shaped(t, ref("nope", ""), ref("none", ""), kinds(), false)
	shaped(t, ref("nope", ""), ref("Nope", ""), kinds(), false)
	shaped(t, ref("nope", ""), ref("", ""), kinds(), false)
	shaped(t, ref("", ""), ref("R", ""), append(kinds(), api.Def{Kind: api.DefObject}), true)
	shaped(t, ref("T!", ""), ref("T", "!"), kinds(), false)
}

// All types of up to three signs, of all Names.
func TestShapesShort(t *testing.T) {
	ends := regexp.MustCompile(`[!\[]*$`)
	wraps := slices.Collect(samples.Rows(3, "!", "[", "?"))
	for _, w := range wraps {
		for _, v := range wraps {
			like := ends.FindString(w) == ends.FindString(v)
			for _, names := range [][3]string{{"R", "R", "same"}, {"R", "S", "same"}, {"R", "T", ""}, {"T", "T", "same"}, {"T", "U", ""}, {"nope", "nope", "same"}, {"nope", "R", ""}, {"W", "S", ""}} {
				shaped(t, api.Ref{Name: names[0], Wraps: w}, api.Ref{Name: names[1], Wraps: v}, kinds(), like && names[2] == "same")
			}
		}
		if t.Failed() {
			return
		}
	}
}

// The types of the API, in sets of one parent and of unlike ones.
func TestShapesMade(t *testing.T) {
	defs := types(t, wide)
	names := []string{"a", "i", "n", "f", "e", "g", "b", "d", "c", "h", "u", "us", "id", "__typename"}
	others := []string{"a", "i", "n", "f", "c", "u", "us", "id", "__typename"}
	line := map[string]int{"a": 1, "i": 1, "n": 2, "f": 3, "e": 4, "g": 5, "b": 6, "d": 6, "us": 6, "c": 7, "h": 7, "u": 7, "id": 8, "__typename": 9}
	for _, x := range names {
		for _, y := range others {
			rules := bad
			if line[x] == line[y] {
				rules = no
			}
			says(t, defs, rules, "{...on T{x:"+x+"} ...on U{x:"+y+"}}")
		}
	}
}

// A field without an Out has no type that another one's could be unlike.
func TestNoOut(t *testing.T) {
	for lacks := range 4 {
		defs := typed(api.Ref{Name: "R"}, api.Ref{Name: "T"}, kinds()...)
		if lacks == 0 {
			breaks(t, twoParents(), defs, 140)
			continue
		}
		if lacks&1 > 0 {
			defs[1].Outs = nil
		}
		if lacks&2 > 0 {
			defs[2].Outs[0].Name = "other"
		}
		breaks(t, twoParents(), defs)
		// What is below meets by shape, too, and has no parent.
		d := twoParents()
		d.Ops[0].Sels[0].Sels[0].Sels = []api.Sel{{Name: "y"}}
		d.Ops[0].Sels[1].Sels[0].Sels = []api.Sel{{Alias: "y", Name: "z"}}
		breaks(t, d, defs)
	}
	// But it has a Name, and arguments.
	defs := typed(api.Ref{Name: "R"}, api.Ref{Name: "R"}, kinds()...)
	says(t, defs, bad, "{x:a x:b}", "{...on A{x:a x:b}}", "{...on A{x:a x:p}}", "{...on A{a a(b:1)}}")
	says(t, defs, no, "{a a}", "{...on A{a a p x:p x:p}}", "{...on A{x:a} ...on B{x:b(c:1)}}")
}

// P14.1: two are at one if their parents are the same name, or one of these is no object's.
func TestAtOne(t *testing.T) {
	d := twoParents()
	for a := -2; a <= api.DefKinds+1; a++ {
		for b := -2; b <= api.DefKinds+1; b++ {
			rules := bad
			if a == api.DefObject && b == api.DefObject {
				rules = no
			}
			defs := typed(api.Ref{Name: "R"}, api.Ref{Name: "R"}, kinds()...)
			defs[1].Kind, defs[2].Kind = a, b
			breaks(t, d, defs, rules...)
			// The first definition of a name counts.
			breaks(t, d, append(slices.Clip(defs), typed(api.Ref{Name: "R"}, api.Ref{Name: "R"})...), rules...)
			breaks(t, d, slices.Concat(typed(api.Ref{Name: "R"}, api.Ref{Name: "R"}, kinds()...), defs))
		}
		one := typed(api.Ref{Name: "R"}, api.Ref{Name: "R"}, kinds()...)
		one[1].Kind = a
		breaks(t, d, one[:2], 140)
		breaks(t, d, one[2:], 140)
		// Where the parents are the same name, it matters not what that is.
		same := copied(d)
		same.Ops[0].Sels[1].On = "A"
		breaks(t, same, one, 140)
		same.Ops[0].Sels[1].Sels[0].Name = "p"
		breaks(t, same, one)
	}
	breaks(t, d, nil, 140)
	breaks(t, d, kinds(), 140)
}

// What is below those that are at one meets wholly, below others by shape, whatever the parents of what is between.
func TestAtOneBelow(t *testing.T) {
	// Fields with a type of each kind, below which two unlike fields stand.
	below := func(kind int) []api.Def {
		one := api.Def{Name: "A", Kind: kind, Outs: []api.Out{{Name: "p", Type: api.Ref{Name: "C"}}}}
		two := api.Def{Name: "B", Kind: api.DefObject, Outs: []api.Out{{Name: "p", Type: api.Ref{Name: "C"}}}}
		three := api.Def{Name: "C", Kind: api.DefObject, Outs: []api.Out{{Name: "y", Type: api.Ref{Name: "R"}}, {Name: "z", Type: api.Ref{Name: "R"}}, {Name: "w", Type: api.Ref{Name: "T"}}}}
		return append([]api.Def{{Name: "Query", Kind: api.DefObject}, one, two, three}, kinds()...)
	}
	for kind := -1; kind <= api.DefKinds; kind++ {
		rules := bad
		if kind == api.DefObject {
			rules = no
		}
		says(t, below(kind), rules, "{...on A{p{x:y}} ...on B{p{x:z}}}", "{...on A{x:p{y{y{x:y}}}} ...on B{x:p{y{y{x:z}}}}}")
		says(t, below(kind), no, "{...on A{p{x:y}} ...on B{p{x:y}}}")
		says(t, below(kind), bad, "{...on A{p{x:y}} ...on A{p{x:z}}}", "{...on B{p{x:y}} ...on B{p{x:w}}}")
		// Without an Out there is no parent below, which is no object's.
		says(t, below(kind), rules, "{...on A{q{x:y}} ...on B{q{x:z}}}")
	}
	says(t, below(api.DefObject), bad, "{...on A{p{x:y}} ...on B{p{x:w}}}")
}

// An empty parent is a name: that of two operations of no kind, of what stands in spreads, and in fields without an Out.
func TestEmptyParent(t *testing.T) {
	x := func(name string) api.Sel { return api.Sel{Alias: "x", Name: name} }
	d := api.Doc{Ops: []api.Op{{Kind: api.OpSubscription, Sels: []api.Sel{x("p"), {Kind: api.SelInline, On: "B", Sels: []api.Sel{x("q")}}}}}}
	defs := typed(api.Ref{Name: "R"}, api.Ref{Name: "R"}, kinds()...)
	breaks(t, d, defs, 140)
	for kind := -1; kind <= api.DefKinds; kind++ {
		rules := bad
		if kind == api.DefObject {
			rules = no
		}
		with := append(slices.Clip(defs), api.Def{Kind: kind, Outs: []api.Out{{Name: "p", Type: api.Ref{Name: "S"}}}})
		breaks(t, d, with, rules...)
		with[len(with)-1].Outs[0].Type.Name = "T"
		breaks(t, d, with, 140)
		for _, around := range []int{api.SelSpread, -1, api.SelKinds} {
			e := api.Doc{Ops: []api.Op{{Sels: []api.Sel{{Kind: around, Name: "f", Sels: d.Ops[0].Sels}}}}}
			breaks(t, e, with, 140)
			with[len(with)-1].Outs[0].Type.Name = "R"
			breaks(t, e, with, rules...)
			with[len(with)-1].Outs[0].Type.Name = "T"
		}
	}
}
