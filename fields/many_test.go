package fields_test

import (
	"reflect"
	"slices"
	"strconv"
	"strings"
	"testing"

	"rhizome/api"
	"rhizome/fields"
	"rhizome/gen"
	"rhizome/print"
	"rhizome/samples"
)

// rows are all lists of at most n of the pieces.
func rows[T any](n int, pieces []T) [][]T {
	all := [][]T{nil}
	for ahead := all; n > 0; n-- {
		var longer [][]T
		for _, l := range ahead {
			for _, x := range pieces {
				longer = append(longer, append(slices.Clip(l), x))
			}
		}
		all, ahead = append(all, longer...), longer
	}
	return all
}

// All rows of operations, of definitions with all kinds of roots.
func TestOpsShort(t *testing.T) {
	var ops []api.Op
	for _, kind := range []int{-1, api.OpQuery, api.OpMutation, api.OpSubscription} {
		for _, name := range []string{"", "a", "b"} {
			ops = append(ops, api.Op{Kind: kind, Name: name})
		}
	}
	var roots []api.Def
	for _, name := range []string{"Query", "Mutation"} {
		for _, kind := range []int{-1, api.DefScalar, api.DefObject, api.DefKinds} {
			roots = append(roots, api.Def{Name: name, Kind: kind})
		}
	}
	for _, defs := range rows(2, roots) {
		for _, l := range rows(2, ops) {
			checks(t, api.Doc{Ops: l}, defs)
		}
	}
	for _, l := range rows(4, ops) {
		checks(t, api.Doc{Ops: l}, []api.Def{object("Query")})
	}
}

// All chains of selections, in all sets, of definitions of all kinds.
func TestChains(t *testing.T) {
	var heads []api.Sel
	for _, name := range []string{"T", "x", "__typename"} {
		heads = append(heads, api.Sel{Name: name})
	}
	for _, on := range []string{"", "T", "x"} {
		heads = append(heads, api.Sel{Kind: api.SelInline, On: on, Name: "T"})
	}
	heads = append(heads, api.Sel{Kind: api.SelSpread, Name: "T", On: "T"}, api.Sel{Kind: api.SelKinds, Name: "T", On: "T"}, api.Sel{Kind: -1})
	var lists [][]api.Def
	for _, kind := range []int{-1, api.DefScalar, api.DefObject, api.DefKinds} {
		for _, l := range [][]api.Def{{object("T", "T")}, {object("T", "x")}, {object("T", "T", "x")}, {object("T", "x"), object("x", "T")}, {object("x", "x")}, {object("", "x", "T")}, {{Name: "String"}, object("T", "T")}} {
			l[len(l)-1].Kind = kind
			lists = append(lists, append([]api.Def{object("Query", "T")}, l...))
		}
	}
	for _, row := range rows(4, heads) {
		var l []api.Sel
		for _, x := range slices.Backward(row) {
			x.Sels = l
			l = []api.Sel{x}
		}
		for _, defs := range lists {
			checks(t, api.Doc{Ops: []api.Op{{Sels: l}}}, defs)
			checks(t, api.Doc{Ops: []api.Op{{Kind: api.OpMutation, Sels: l}}, Frags: []api.Frag{{On: "x", Sels: l}}}, defs)
			checks(t, api.Doc{Frags: []api.Frag{{On: "T", Sels: l}, {Sels: l}}}, defs)
			if t.Failed() {
				return
			}
		}
	}
}

// All rows of arguments against all rows of those that there are.
func TestArgsShort(t *testing.T) {
	var ins []api.In
	var args []api.Arg
	for _, name := range []string{"", "a", "b"} {
		for _, wraps := range []string{"", "!", "!["} {
			ins = append(ins, api.In{Name: name, Type: api.Ref{Wraps: wraps}})
		}
		for _, kind := range []int{api.ValNull, api.ValTrue} {
			args = append(args, api.Arg{Name: name, Value: api.Value{Kind: kind}})
		}
	}
	for _, wanted := range rows(2, ins) {
		defs := []api.Def{{Name: "Query", Kind: api.DefObject, Outs: []api.Out{{Name: "x", Args: wanted}}}}
		for _, given := range rows(3, args) {
			checks(t, api.Doc{Ops: []api.Op{{Sels: []api.Sel{{Name: "x", Args: given}}}}}, defs)
		}
	}
}

// All rows of directives, at each place.
func TestDirectivesShort(t *testing.T) {
	on, off := api.Value{Kind: api.ValTrue}, api.Value{}
	var l []api.Directive
	for _, name := range []string{"skip", "include", "x"} {
		for _, args := range [][]api.Arg{nil, {{Name: "if", Value: on}}, {{Name: "if", Value: off}}, {{Name: "x", Value: on}}, {{Name: "if", Value: on}, {Name: "if", Value: off}}, {{Name: "x"}, {Name: "if", Value: on}}} {
			l = append(l, api.Directive{Name: name, Args: args})
		}
	}
	defs := []api.Def{object("Query", "T")}
	for _, row := range rows(3, l) {
		checks(t, api.Doc{Ops: []api.Op{{Directives: row}}}, defs)
		checks(t, api.Doc{Ops: []api.Op{{Vars: []api.Var{{Directives: row}}}}}, defs)
		checks(t, api.Doc{Frags: []api.Frag{{Directives: row}}}, defs)
		for kind := -1; kind <= api.SelKinds; kind++ {
			checks(t, api.Doc{Ops: []api.Op{{Sels: []api.Sel{{Kind: kind, Name: "T", Directives: row}}}}}, defs)
		}
		if t.Failed() {
			return
		}
	}
}

// madeTypes are the definitions of a schema that may be.
func madeTypes(t *testing.T, m *samples.Trees) []api.Def {
	t.Helper()
	defs, e := gen.Types(m.Allowed())
	if e != api.OK {
		t.Fatal(e)
	}
	return defs
}

// made are definitions, and a document that breaks none of the rules.
func made(t *testing.T, x uint64, tokens int) (api.Doc, []api.Def) {
	m := samples.NewTrees(x, tokens)
	defs := madeTypes(t, m)
	return m.Asked(defs), defs
}

// What is asked as it may be breaks nothing.
func TestMade(t *testing.T) {
	for i, x := range samples.Spread(1000) {
		d, defs := made(t, x, 30+i)
		breaks(t, d, defs)
		if e := print.Check(d); e != api.OK {
			t.Errorf("%s: %d", short(d), e)
		}
		if t.Failed() {
			return
		}
	}
}

// Any documents, of any definitions.
func TestMadeAny(t *testing.T) {
	for i, x := range samples.Spread(2000) {
		m := samples.NewTrees(x, 20+i%200)
		defs := madeTypes(t, m)
		d := api.Doc{Ops: []api.Op{m.Op()}, Frags: []api.Frag{m.Frag()}}
		if m.Pick(2) == 0 {
			d.Ops = append(d.Ops, m.Op())
		}
		checks(t, d, defs)
	}
}

// changer makes changes in trees: at each place that it is led over, if its turn has come.
type changer struct {
	m    *samples.Trees
	turn int // how many places are passed by
}

// all leads over all places of a value.
func (c *changer) all(v reflect.Value) {
	switch v.Kind() {
	case reflect.Slice:
		for i := range v.Len() {
			c.all(v.Index(i))
		}
		c.place(func() { c.list(v) })
	case reflect.Struct:
		for i := range v.NumField() {
			c.all(v.Field(i))
		}
	case reflect.String:
		c.place(func() { v.SetString(c.word()) })
	case reflect.Int:
		c.place(func() { v.SetInt(int64(c.m.Pick(7) - 1)) })
	}
}

func (c *changer) place(change func()) {
	if c.turn == 0 {
		change()
	}
	c.turn--
}

func (c *changer) word() string {
	l := strings.Fields("T U Query Mutation String Int a b id if skip include __typename filter first f0 f1 o0 ! [ ![! x")
	if n := c.m.Pick(len(l) + 1); n < len(l) {
		return l[n]
	}
	return ""
}

// list takes one away, or puts one there again, or puts one there that is empty or, of directives, as it may be.
func (c *changer) list(v reflect.Value) {
	n := v.Len()
	switch at := c.m.Pick(n + 1); {
	case at == n && v.Type() == reflect.TypeFor[[]api.Directive]() && c.m.Pick(2) == 0:
		v.Set(reflect.Append(v, reflect.ValueOf(api.Directive{Name: "skip", Args: []api.Arg{{Name: "if", Value: api.Value{Kind: api.ValTrue}}}})))
	case at == n:
		v.Set(reflect.Append(v, reflect.Zero(v.Type().Elem())))
	case c.m.Pick(2) == 0:
		v.Set(reflect.AppendSlice(v.Slice(0, at), v.Slice(at+1, n)))
	default:
		v.Set(reflect.Append(v, v.Index(at)))
	}
}

// change makes a change somewhere in a value that is handed in by its address.
func change(m *samples.Trees, v reflect.Value) {
	count := &changer{m: m, turn: -1}
	count.all(v.Elem())
	c := &changer{m: m, turn: m.Pick(-1 - count.turn)}
	c.all(v.Elem())
}

// Documents and definitions in which one thing or more is not as it was.
func TestChanged(t *testing.T) {
	seen := map[string]int{}
	for i, x := range samples.Spread(6000) {
		d, defs := made(t, x, 30+i%100)
		d, defs = copied(d), copied(defs)
		m := samples.NewTrees(^x, 0)
		for range 1 + i%4 {
			if i%3 == 0 {
				change(m, reflect.ValueOf(&defs))
			} else {
				change(m, reflect.ValueOf(&d))
			}
		}
		seen[short(checks(t, d, defs))]++
		if t.Failed() {
			return
		}
	}
	for e := api.ErrOpName; e <= api.ErrDirTwice; e++ {
		if name := "[" + strconv.Itoa(int(e)) + "]"; seen[name] == 0 {
			t.Errorf("%s was never told alone", name)
		}
	}
	if len(seen) < 30 {
		t.Errorf("only %d unlike answers", len(seen))
	}
}

// shuffled lays all lists of a document in another order.
func shuffled(m *samples.Trees, v reflect.Value) {
	switch v.Kind() {
	case reflect.Slice:
		for i := range v.Len() {
			shuffled(m, v.Index(i))
			reflect.Swapper(v.Interface())(i, m.Pick(i+1))
		}
	case reflect.Struct:
		for i := range v.NumField() {
			shuffled(m, v.Field(i))
		}
	}
}

// P11.2: in another order the same is told.
func TestOrder(t *testing.T) {
	for i, x := range samples.Spread(3000) {
		d, defs := made(t, x, 30+i%300)
		d = copied(d)
		m := samples.NewTrees(^x, 0)
		for range i % 4 {
			change(m, reflect.ValueOf(&d))
		}
		want := checks(t, d, defs)
		shuffled(m, reflect.ValueOf(&d).Elem())
		if l := checks(t, d, defs); !slices.Equal(l, want) {
			t.Fatalf("%s: %v, not %v", short(d), l, want)
		}
	}
	defs := types(t, chapter)
	for _, l := range [][2]string{
		{"{getT(id:1,id:null){a}}", "{getT(id:null,id:1){a}}"}, {"{nope getT{a}}", "{getT{a}nope}"},
		{"query a{__typename} query b@x{__typename}", "query b@x{__typename} query a{__typename}"},
		{"{__typename} fragment f on T{x} fragment g on T{b}", "{__typename} fragment g on T{b} fragment f on T{x}"},
		{"{__typename@skip@skip(if:1)}", "{__typename@skip(if:1)@skip}"},
	} {
		if x, y := checks(t, read(t, l[0]), defs), checks(t, read(t, l[1]), defs); !slices.Equal(x, y) {
			t.Errorf("%q: %v, but of %q %v", l[0], x, l[1], y)
		}
	}
}

// P11.2: what an operation alone breaks each document breaks that has it, but for ErrOpName; what all alone break is what it breaks.
func TestAlone(t *testing.T) {
	for i, x := range samples.Spread(3000) {
		d, defs := made(t, x, 100+i%100)
		other, _ := made(t, x*3, 50)
		d.Ops, d.Frags = append(d.Ops, other.Ops...), append(d.Frags, other.Frags...)
		d = copied(d)
		m := samples.NewTrees(^x, 0)
		for range i % 4 {
			change(m, reflect.ValueOf(&d))
		}
		all := map[api.Errno]bool{}
		for _, o := range d.Ops {
			for _, e := range checks(t, api.Doc{Ops: []api.Op{o}}, defs) {
				all[e] = true
			}
		}
		for _, f := range d.Frags {
			for _, e := range checks(t, api.Doc{Frags: []api.Frag{f}}, defs) {
				all[e] = true
			}
		}
		if all[api.ErrOpName] {
			t.Fatalf("%s: an operation alone breaks ErrOpName", short(d))
		}
		l := checks(t, d, defs)
		for e := api.ErrOpRoot; e <= api.ErrDirTwice; e++ {
			if slices.Contains(l, e) != all[e] {
				t.Fatalf("%s: %v, but %d alone", short(d), l, e)
			}
		}
	}
}

// R4: what is told is its owner's, the room behind it too; and what is handed in stays as it was.
func TestMemory(t *testing.T) {
	defs := types(t, chapter)
	for text, want := range map[string][]api.Errno{
		"{__typename}": {}, "{nope}": {112}, "{getT(id:1,id:2,x:3){a}}": {114, 115},
		"query a@skip@skip{getT(x:1,x:2)@y nope} subscription a{b}": {110, 111, 112, 113, 114, 115, 116, 117, 118, 119},
	} {
		d := read(t, text)
		first, second := fields.Check(d, defs), fields.Check(d, defs)
		if room := first[len(first):cap(first)]; slices.ContainsFunc(room, func(e api.Errno) bool { return e != 0 }) {
			t.Errorf("%q: %v behind %v", text, room, first)
		}
		all := first[:cap(first)]
		for i := range all {
			all[i] = -1
		}
		if third := fields.Check(d, defs); !slices.Equal(second, want) || !slices.Equal(third, want) {
			t.Errorf("%q: %v, then %v, not %v", text, second, third, want)
		}
	}
}

// R3: a list that is not there is as an empty one.
func TestEmpty(t *testing.T) {
	for i, x := range samples.Spread(300) {
		d, defs := made(t, x, 30+i)
		m := samples.NewTrees(^x, 0)
		d = copied(d)
		change(m, reflect.ValueOf(&d))
		want := checks(t, d, defs)
		if l := checks(t, emptied(d), emptied(defs)); !slices.Equal(l, want) {
			t.Fatalf("%s: %v, not %v", short(d), l, want)
		}
	}
}

// emptied is a value whose empty lists are all nil.
func emptied[T any](x T) T {
	x = copied(x)
	setNil(reflect.ValueOf(&x).Elem())
	return x
}

func setNil(v reflect.Value) {
	switch v.Kind() {
	case reflect.Slice:
		for i := range v.Len() {
			setNil(v.Index(i))
		}
		if v.Len() == 0 {
			v.SetZero()
		}
	case reflect.Struct:
		for i := range v.NumField() {
			setNil(v.Field(i))
		}
	}
}

// R1: what is deep, and what is long.
func TestDeep(t *testing.T) {
	defs := types(t, chapter)
	for _, x := range []api.Sel{{Name: "b"}, {Kind: api.SelInline}, {Kind: api.SelInline, On: "T"}} {
		for _, last := range []string{"a", "nope"} {
			l := []api.Sel{{Name: last}}
			for range 1 << 16 {
				x.Sels = l
				l = []api.Sel{x}
			}
			want := no
			if last == "nope" {
				want = of(112)
			}
			if got := fields.Check(api.Doc{Ops: []api.Op{{Sels: []api.Sel{{Name: "queryT", Sels: l}}}}}, defs); !slices.Equal(got, want) {
				t.Errorf("%v: %v, not %v", x.Kind, got, want)
			}
			if got := fields.Check(api.Doc{Frags: []api.Frag{{On: "T", Sels: l}}}, defs); !slices.Equal(got, want) {
				t.Errorf("%v: %v, not %v", x.Kind, got, want)
			}
		}
	}
}

func TestLong(t *testing.T) {
	const many = 100000
	defs := types(t, chapter)
	var sels []api.Sel
	var ops []api.Op
	var frags []api.Frag
	var args []api.Arg
	var ins []api.In
	var vars []api.Var
	for i := range many {
		name := "a" + strconv.Itoa(i)
		sels = append(sels, api.Sel{Name: "__typename", Alias: name})
		ops = append(ops, api.Op{Name: name})
		frags = append(frags, api.Frag{Name: name, On: "T", Sels: []api.Sel{{Name: "a"}}})
		args = append(args, api.Arg{Name: name, Value: api.Value{Kind: api.ValTrue}})
		ins = append(ins, api.In{Name: name, Type: api.Ref{Wraps: "!"}})
		vars = append(vars, api.Var{Name: name})
	}
	tells := func(d api.Doc, defs []api.Def, want ...api.Errno) {
		t.Helper()
		if l := fields.Check(d, defs); !slices.Equal(l, want) {
			t.Errorf("%v, not %v", l, want)
		}
	}
	tells(api.Doc{Ops: ops, Frags: frags}, defs)
	tells(api.Doc{Ops: append(ops, ops[0])}, defs, 110)
	tells(api.Doc{Ops: append(ops, api.Op{})}, defs, 110)
	tells(api.Doc{Ops: append(ops, api.Op{Name: "x", Kind: -1})}, defs, 111)
	tells(api.Doc{Frags: append(frags, api.Frag{On: "T", Sels: []api.Sel{{Name: "x"}}})}, defs, 112)
	tells(api.Doc{Ops: []api.Op{{Sels: sels, Vars: vars}}}, defs)
	tells(api.Doc{Ops: []api.Op{{Sels: append(sels, api.Sel{Name: "queryT"})}}}, defs, 113)
	tells(api.Doc{Ops: []api.Op{{Vars: append(vars, api.Var{Directives: []api.Directive{{}}})}}}, defs, 117)
	wide := []api.Def{{Name: "Query", Kind: api.DefObject, Outs: []api.Out{{Name: "x", Args: ins}}}}
	tells(api.Doc{Ops: []api.Op{{Sels: []api.Sel{{Name: "x", Args: args}}}}}, wide)
	tells(api.Doc{Ops: []api.Op{{Sels: []api.Sel{{Name: "x", Args: append(args, api.Arg{})}}}}}, wide, 114)
	tells(api.Doc{Ops: []api.Op{{Sels: []api.Sel{{Name: "x", Args: append(args, args[7])}}}}}, wide, 115)
	tells(api.Doc{Ops: []api.Op{{Sels: []api.Sel{{Name: "x", Args: args[1:]}}}}}, wide, 116)
	tells(api.Doc{Ops: []api.Op{{Sels: []api.Sel{{Name: "__typename", Directives: make([]api.Directive, many)}}}}}, defs, 117)
}
