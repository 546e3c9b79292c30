package merge_test

import (
	"cmp"
	"slices"
	"strconv"
	"testing"

	"rhizome/api"
	"rhizome/merge"
)

// tells holds Check, of what is too large for the model, against rules.
func tells(t *testing.T, d api.Doc, defs []api.Def, rules ...api.Errno) {
	t.Helper()
	if l := merge.Check(d, defs); !slices.Equal(l, rules) {
		t.Errorf("%v, not %v", l, rules)
	}
}

func op(l ...api.Sel) api.Doc { return api.Doc{Ops: []api.Op{{Sels: l}}} }

func aliased(alias, name string) api.Sel { return api.Sel{Alias: alias, Name: name} }

// within puts selections so often into a selection.
func within(x api.Sel, times int, l ...api.Sel) api.Sel {
	for range times {
		x.Sels = l
		l = []api.Sel{x}
	}
	return l[0]
}

// R1: what is deep.
func TestDeep(t *testing.T) {
	const deep = 1 << 16
	defs := types(t, wide)
	on := func(parent string, l ...api.Sel) api.Sel {
		return api.Sel{Kind: api.SelInline, On: parent, Sels: l}
	}
	for _, x := range []api.Sel{{Name: "c"}, {Kind: api.SelInline}, on("T"), {Kind: api.SelSpread, Name: "f"}, {Kind: -1}} {
		one, other := within(x, deep, aliased("x", "a")), within(x, deep, aliased("x", "i"))
		tells(t, op(on("T", one, one)), defs)
		if x.Kind == api.SelField || x.Kind == api.SelInline {
			tells(t, op(on("T", one, other)), defs, 140)
		} else {
			tells(t, op(on("T", one, other)), defs)
		}
		tells(t, op(on("T", within(x, deep, aliased("x", "a"), aliased("x", "i")))), defs, 140)
	}
	c := api.Sel{Name: "c"}
	tells(t, op(on("T", within(c, deep, aliased("x", "a"))), on("U", within(c, deep, aliased("x", "i")))), defs)
	tells(t, op(on("T", within(c, deep, aliased("x", "a"))), on("U", within(c, deep, aliased("x", "n")))), defs, 140)
	v, w := api.Value{Kind: api.ValInt}, api.Value{Kind: api.ValFloat}
	for range deep {
		v = api.Value{Kind: api.ValList, List: []api.Value{v}}
		w = api.Value{Kind: api.ValList, List: []api.Value{w}}
	}
	field := func(v api.Value) api.Sel { return api.Sel{Name: "q", Args: []api.Arg{{Name: "a", Value: v}}} }
	tells(t, op(field(v), field(v)), defs)
	tells(t, op(field(v), field(w)), defs, 140)
}

// Many fields, of many response names or of one.
func TestWide(t *testing.T) {
	const many = 100000
	defs := types(t, wide)
	var unlike, like, deeper []api.Sel
	for i := range many {
		name := "a" + strconv.Itoa(i)
		unlike = append(unlike, aliased(name, "a"))
		like = append(like, aliased("x", "a"))
		deeper = append(deeper, api.Sel{Name: "c", Sels: []api.Sel{aliased(name, "a"), aliased("x", "i")}})
	}
	for _, l := range [][]api.Sel{unlike, like, deeper} {
		at := func(more ...api.Sel) api.Doc {
			return op(api.Sel{Name: "queryT", Sels: append(slices.Clip(l), more...)})
		}
		tells(t, at(), defs)
		tells(t, at(l...), defs)
		tells(t, at(aliased("y", "a"), aliased("y", "a")), defs)
		tells(t, at(aliased("y", "a"), aliased("y", "i")), defs, 140)
		last := copied(l[many-1])
		last.Alias = cmp.Or(last.Alias, last.Name)
		tells(t, at(last), defs)
		if len(last.Sels) > 0 {
			last.Sels[0].Name = "i"
			tells(t, at(last), defs, 140)
		}
		last.Name = "i"
		tells(t, at(last), defs, 140)
	}
	var ops []api.Op
	for range many {
		ops = append(ops, api.Op{Sels: spreads("f")})
	}
	f := []api.Frag{{Name: "f", On: "Query", Sels: like}}
	tells(t, api.Doc{Ops: ops, Frags: f}, defs)
	f[0].Sels = append(slices.Clip(like), aliased("x", "i"))
	tells(t, api.Doc{Ops: ops, Frags: f}, defs, 140)
	// Many small sets that meet a great one.
	f = []api.Frag{{Name: "f", On: "T", Sels: unlike}}
	for i := range ops {
		ops[i].Sels = []api.Sel{{Name: "queryT", Sels: append(spreads("f"), aliased("a7", "a"))}}
	}
	tells(t, api.Doc{Ops: ops, Frags: f}, defs)
	ops[many-1].Sels[0].Sels[1].Name = "i"
	tells(t, api.Doc{Ops: ops, Frags: f}, defs, 140)
}

// fragments are so many, on T, each with the selections that are made of its number.
func fragments(many int, made func(i int) []api.Sel) []api.Frag {
	var l []api.Frag
	for i := range many {
		l = append(l, api.Frag{Name: "f" + strconv.Itoa(i), On: "T", Sels: made(i)})
	}
	return l
}

// Many fragments, of which each spreads others twice: there are more ways through them than can be gone.
func TestTwiceAgain(t *testing.T) {
	const many = 300
	defs := types(t, wide)
	next := func(i int) []api.Sel { return spreads("f"+strconv.Itoa(i+1), "f"+strconv.Itoa(i+1)) }
	last := func(made func(int) []api.Sel, more ...api.Sel) func(int) []api.Sel {
		return func(i int) []api.Sel {
			if i == many-1 {
				return more
			}
			return made(i)
		}
	}
	deep := func(around ...api.Sel) func(int) []api.Sel {
		return func(i int) []api.Sel {
			var l []api.Sel
			for _, x := range around {
				x.Sels = append(slices.Clip(x.Sels), next(i)...)
				l = append(l, x)
			}
			return l
		}
	}
	c, h, inline := api.Sel{Name: "c"}, api.Sel{Name: "h"}, api.Sel{Kind: api.SelInline}
	u := api.Sel{Kind: api.SelInline, On: "U", Sels: []api.Sel{{Name: "c"}}}
	for _, made := range []func(int) []api.Sel{next, deep(c), deep(c, c), deep(c, h), deep(c, c, h, h), deep(inline, inline), deep(inline, c, c), deep(c, u), deep(c, u, h, inline)} {
		doc := func(more ...api.Sel) api.Doc {
			return api.Doc{Ops: []api.Op{{Sels: []api.Sel{{Name: "queryT", Sels: spreads("f0", "f0")}}}}, Frags: fragments(many, last(made, more...))}
		}
		tells(t, doc(), defs)
		tells(t, doc(aliased("x", "a"), aliased("x", "a")), defs)
		tells(t, doc(aliased("x", "a"), aliased("x", "i")), defs, 140)
		round := doc(append(spreads("f0", "f7"), aliased("x", "a"))...)
		tells(t, round, defs)
		round.Frags[7].Sels = append(round.Frags[7].Sels, aliased("x", "a"))
		tells(t, round, defs)
		slices.Reverse(round.Frags)
		tells(t, round, defs)
	}
}

// Fields round cycles, each with a set of its own, that all meet each other.
func TestRound(t *testing.T) {
	const many = 150
	defs := types(t, wide)
	for _, way := range []string{"", "T", "U"} {
		made := func(i int) []api.Sel {
			to := (i*7 + 1) % many
			x := api.Sel{Name: "c", Sels: append(spreads("f"+strconv.Itoa(to)), aliased("n"+strconv.Itoa(i), "a"))}
			return append(spreads("f"+strconv.Itoa((i+1)%many)), api.Sel{Kind: api.SelInline, On: way, Sels: []api.Sel{x}})
		}
		d := api.Doc{Ops: op(api.Sel{Name: "queryT", Sels: spreads("f3")}).Ops, Frags: fragments(many, made)}
		tells(t, d, defs)
		d.Frags[many/2].Sels = append(d.Frags[many/2].Sels, aliased("n5", "a"))
		tells(t, d, defs)
		d.Frags[many/2].Sels[2].Name = "n"
		tells(t, d, defs, 140)
	}
}

// Many fragments, each of which leads to all of them, and many in a row.
func TestLeadsMany(t *testing.T) {
	defs := types(t, wide)
	var names []string
	for i := range 120 {
		names = append(names, "f"+strconv.Itoa(i))
	}
	for _, field := range []bool{false, true} {
		l := fragments(len(names), func(i int) []api.Sel {
			sels := spreads(names...)
			if field {
				sels = []api.Sel{{Name: "c", Sels: sels}}
			}
			return append(sels, aliased("x"+strconv.Itoa(i), "a"))
		})
		tells(t, api.Doc{Frags: l}, defs)
		l[50].Sels = append(l[50].Sels, aliased("x60", "a"))
		tells(t, api.Doc{Frags: l}, defs)
		l[50].Sels = append(l[50].Sels, aliased("x61", "i"))
		tells(t, api.Doc{Frags: l}, defs, 140)
	}
	for _, last := range []string{"a", "i"} {
		const many = 1000
		row := fragments(many, func(i int) []api.Sel {
			if i == many-1 {
				return []api.Sel{aliased("x", last)}
			}
			return spreads("f" + strconv.Itoa(i+1))
		})
		d := op(api.Sel{Name: "queryT", Sels: append(spreads("f0"), aliased("x", "a"))})
		d.Frags = row
		rules := no
		if last == "i" {
			rules = bad
		}
		tells(t, d, defs, rules...)
		slices.Reverse(d.Frags)
		tells(t, d, defs, rules...)
	}
}

// Long arguments, types, names and lists of definitions.
func TestLong(t *testing.T) {
	const many = 3000
	defs := types(t, wide)
	var args []api.Arg
	wraps := ""
	for i := range many {
		args = append(args, api.Arg{Name: "a" + strconv.Itoa(i)})
		wraps += "!["
	}
	back := slices.Clone(args)
	slices.Reverse(back)
	tells(t, op(api.Sel{Name: "q", Args: args}, api.Sel{Name: "q", Args: back}), defs)
	back[many-1].Value.Kind = api.ValTrue
	tells(t, op(api.Sel{Name: "q", Args: args}, api.Sel{Name: "q", Args: back}), defs, 140)
	like := api.Ref{Name: "R", Wraps: wraps}
	tells(t, twoParents(), typed(like, like, kinds()...))
	tells(t, twoParents(), typed(like, api.Ref{Name: "S", Wraps: wraps}, kinds()...))
	tells(t, twoParents(), typed(like, api.Ref{Name: "R", Wraps: "[" + wraps}, kinds()...), 140)
	tells(t, twoParents(), typed(like, api.Ref{Name: "R", Wraps: wraps[1:]}, kinds()...), 140)
	tells(t, twoParents(), typed(like, api.Ref{Name: "T", Wraps: wraps}, kinds()...), 140)
}
