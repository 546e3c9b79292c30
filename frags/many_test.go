package frags_test

import (
	"reflect"
	"slices"
	"strconv"
	"strings"
	"testing"

	"rhizome/api"
	"rhizome/frags"
	"rhizome/gen"
	"rhizome/print"
	"rhizome/samples"
)

// rows are all lists of at most n of the pieces.
func rows[T any](n int, pieces []T) [][]T {
	all := [][]T{nil}
	for ahead := all; n > 0; n-- {
		var longer [][]T
		for _, l := range ahead {
			for _, x := range pieces {
				longer = append(longer, append(slices.Clip(l), x))
			}
		}
		all, ahead = append(all, longer...), longer
	}
	return all
}

// spreads are selections that spread each of the names.
func spreads(names []string) []api.Sel {
	var l []api.Sel
	for _, x := range names {
		l = append(l, api.Sel{Kind: api.SelSpread, Name: x})
	}
	return l
}

// All ways in which three fragments lead to one another and to one that is not there, of all names.
func TestLeads(t *testing.T) {
	defs := []api.Def{{Name: "Query", Kind: api.DefObject}}
	var some [][]string
	for bits := range 16 {
		var l []string
		for i, name := range []string{"a", "b", "c", "d"} {
			if bits>>i&1 == 1 {
				l = append(l, name)
			}
		}
		some = append(some, l)
	}
	for _, names := range [][]string{{"a", "b", "c"}, {"a", "a", "b"}, {"a", "b", "a"}, {"b", "a", "a"}, {"a", "a", "a"}} {
		for n := range 16 * 16 * 16 {
			var l []api.Frag
			for i, x := range names {
				l = append(l, api.Frag{Name: x, On: "Query", Sels: spreads(some[n>>(4*i)&15])})
			}
			checks(t, api.Doc{Frags: l}, defs)
		}
	}
}

// All ways in which four, and in which five, fragments lead to one another: who reaches itself is in a cycle.
func TestLeadsMany(t *testing.T) {
	defs := []api.Def{{Name: "Query", Kind: api.DefObject}}
	names := []string{"a", "b", "c", "d", "e"}
	for n, step := range map[int]int{4: 1, 5: 1009} {
		for bits := 0; bits < 1<<(n*n); bits += step {
			var l []api.Frag
			for i := range n {
				var to []string
				for j := range n {
					if bits>>(i*n+j)&1 == 1 {
						to = append(to, names[j])
					}
				}
				l = append(l, api.Frag{Name: names[i], On: "Query", Sels: spreads(to)})
			}
			checks(t, api.Doc{Frags: l}, defs)
			if t.Failed() {
				return
			}
		}
	}
}

// All rows of fragments of all names and conditions, with what an operation spreads.
func TestFragsShort(t *testing.T) {
	defs := []api.Def{{Name: "Query", Kind: api.DefObject}, {Name: "S"}, {Name: "T", Kind: api.DefObject}}
	var l []api.Frag
	for _, name := range []string{"a", "b"} {
		for _, on := range []string{"", "Query", "S", "T", "N"} {
			for _, to := range [][]string{nil, {"a"}, {"b"}} {
				l = append(l, api.Frag{Name: name, On: on, Sels: spreads(to)})
			}
		}
	}
	for _, row := range rows(3, l) {
		for _, names := range [][]string{nil, {"a"}, {"a", "b"}} {
			checks(t, api.Doc{Ops: []api.Op{{Sels: spreads(names)}}, Frags: row}, defs)
		}
		if t.Failed() {
			return
		}
	}
}

// object is a definition, its fields called by their types.
func object(name string, outs ...string) api.Def {
	d := api.Def{Name: name, Kind: api.DefObject}
	for _, x := range outs {
		d.Outs = append(d.Outs, api.Out{Name: x, Type: api.Ref{Name: x}})
	}
	return d
}

// All chains of selections, in all sets, of definitions of all kinds.
func TestChains(t *testing.T) {
	var heads []api.Sel
	for _, name := range []string{"T", "x", "__typename"} {
		heads = append(heads, api.Sel{Name: name})
	}
	for _, on := range []string{"", "T", "x", "Query"} {
		heads = append(heads, api.Sel{Kind: api.SelInline, On: on, Name: "T"})
	}
	heads = append(heads, api.Sel{Kind: api.SelSpread, Name: "T", On: "T"}, api.Sel{Kind: api.SelSpread, Name: "x"}, api.Sel{Kind: api.SelKinds, Name: "T", On: "T"}, api.Sel{Kind: -1})
	var lists [][]api.Def
	for _, kind := range []int{-1, api.DefScalar, api.DefObject, api.DefKinds} {
		for _, l := range [][]api.Def{{object("T", "T")}, {object("T", "x")}, {object("T", "x"), object("x", "T")}, {object("x", "x")}, {object("", "x", "T")}, {{Name: "String"}, object("T", "T")}} {
			l[len(l)-1].Kind = kind
			lists = append(lists, append([]api.Def{object("Query", "T")}, l...))
		}
	}
	for _, row := range rows(4, heads) {
		var l []api.Sel
		for _, x := range slices.Backward(row) {
			x.Sels = l
			l = []api.Sel{x}
		}
		for _, defs := range lists {
			checks(t, api.Doc{Ops: []api.Op{{Sels: l}}, Frags: []api.Frag{{Name: "T", On: "T"}}}, defs)
			checks(t, api.Doc{Ops: []api.Op{{Kind: api.OpSubscription, Sels: l}}, Frags: []api.Frag{{Name: "x", On: "x", Sels: l}, {Name: "T", On: "Query"}}}, defs)
			if t.Failed() {
				return
			}
		}
	}
}

// madeTypes are the definitions of a schema that may be.
func madeTypes(t *testing.T, m *samples.Trees) []api.Def {
	t.Helper()
	defs, e := gen.Types(m.Allowed())
	if e != api.OK {
		t.Fatal(e)
	}
	return defs
}

// made are definitions, and a document that breaks none of the rules.
func made(t *testing.T, x uint64, tokens int) (api.Doc, []api.Def) {
	m := samples.NewTrees(x, tokens)
	defs := madeTypes(t, m)
	return m.Asked(defs), defs
}

// What is asked as it may be breaks nothing.
func TestMade(t *testing.T) {
	spread := 0
	for i, x := range samples.Spread(1000) {
		d, defs := made(t, x, 30+i)
		breaks(t, d, defs)
		if e := print.Check(d); e != api.OK {
			t.Errorf("%s: %d", short(d), e)
		}
		if len(d.Frags) > 2 {
			spread++
		}
		if t.Failed() {
			return
		}
	}
	if spread < 300 {
		t.Errorf("only %d have more than two fragments", spread)
	}
}

// Any documents, of any definitions.
func TestMadeAny(t *testing.T) {
	for i, x := range samples.Spread(3000) {
		m := samples.NewTrees(x, 20+i%200)
		defs := madeTypes(t, m)
		d := api.Doc{Ops: []api.Op{m.Op()}}
		for range m.Pick(5) {
			d.Frags = append(d.Frags, m.Frag())
		}
		checks(t, d, defs)
	}
}

// changer makes changes in trees: at each place that it is led over, if its turn has come.
type changer struct {
	m    *samples.Trees
	turn int // how many places are passed by
}

// all leads over all places of a value that may make a difference here.
func (c *changer) all(v reflect.Value) {
	switch v.Interface().(type) {
	case []api.Arg, []api.Directive, []api.Var:
		return
	}
	switch v.Kind() {
	case reflect.Slice:
		for i := range v.Len() {
			c.all(v.Index(i))
		}
		c.place(func() { c.list(v) })
	case reflect.Struct:
		for i := range v.NumField() {
			c.all(v.Field(i))
		}
	case reflect.String:
		c.place(func() { v.SetString(c.word()) })
	case reflect.Int:
		c.place(func() { v.SetInt(int64(c.m.Pick(7) - 1)) })
	}
}

func (c *changer) place(change func()) {
	if c.turn == 0 {
		change()
	}
	c.turn--
}

func (c *changer) word() string {
	l := strings.Fields("T U Query Mutation String Int a b id __typename f0 f1 f2 f3 f4 f0 f1 f2 f3 f4 x")
	if n := c.m.Pick(len(l) + 1); n < len(l) {
		return l[n]
	}
	return ""
}

// list takes one away, or puts one there again, or puts one there that is empty or, of selections, spreads.
func (c *changer) list(v reflect.Value) {
	n := v.Len()
	switch at := c.m.Pick(n + 1); {
	case v.Type() == reflect.TypeFor[[]api.Sel]() && c.m.Pick(2) == 0:
		v.Set(reflect.Append(v, reflect.ValueOf(api.Sel{Kind: api.SelSpread, Name: c.word()})))
	case at == n:
		v.Set(reflect.Append(v, reflect.Zero(v.Type().Elem())))
	case c.m.Pick(2) == 0:
		v.Set(reflect.AppendSlice(v.Slice(0, at), v.Slice(at+1, n)))
	default:
		v.Set(reflect.Append(v, v.Index(at)))
	}
}

// change makes a change somewhere in a value that is handed in by its address.
func change(m *samples.Trees, v reflect.Value) {
	count := &changer{m: m, turn: -1}
	count.all(v.Elem())
	c := &changer{m: m, turn: m.Pick(-1 - count.turn)}
	c.all(v.Elem())
}

// changed is a document, with its definitions, in which so many things are not as they were.
func changed(t *testing.T, x uint64, tokens, many int) (api.Doc, []api.Def) {
	d, defs := made(t, x, tokens)
	d, defs = copied(d), copied(defs)
	m := samples.NewTrees(^x, 0)
	for range many {
		if m.Pick(4) == 0 {
			change(m, reflect.ValueOf(&defs))
		} else {
			change(m, reflect.ValueOf(&d))
		}
	}
	return d, defs
}

// Documents and definitions in which one thing or more is not as it was.
func TestChanged(t *testing.T) {
	seen := map[string]int{}
	for i, x := range samples.Spread(6000) {
		d, defs := changed(t, x, 50+i%100, 1+i%5)
		seen[short(checks(t, d, defs))]++
		if t.Failed() {
			return
		}
	}
	for e := api.ErrFragTwice; e <= api.ErrFragSpread; e++ {
		if name := "[" + strconv.Itoa(int(e)) + "]"; seen[name] == 0 {
			t.Errorf("%s was never told alone", name)
		}
	}
	if len(seen) < 30 {
		t.Errorf("only %d unlike answers", len(seen))
	}
}

// shuffled lays all lists of a document in another order.
func shuffled(m *samples.Trees, v reflect.Value) {
	switch v.Kind() {
	case reflect.Slice:
		for i := range v.Len() {
			shuffled(m, v.Index(i))
			reflect.Swapper(v.Interface())(i, m.Pick(i+1))
		}
	case reflect.Struct:
		for i := range v.NumField() {
			shuffled(m, v.Field(i))
		}
	}
}

// P12.2: in another order the same is told, where no two fragments have the same name.
func TestOrder(t *testing.T) {
	for i, x := range samples.Spread(3000) {
		d, defs := changed(t, x, 30+i%300, i%5)
		want := checks(t, d, defs)
		shuffled(samples.NewTrees(x*5, 0), reflect.ValueOf(&d).Elem())
		if l := checks(t, d, defs); !slices.Equal(l, want) && !slices.Contains(want, api.ErrFragTwice) {
			t.Fatalf("%s: %v, not %v", short(d), l, want)
		}
	}
	defs := types(t, wide)
	for _, l := range [][2]string{
		{"{queryT{...f ...on U{c}}} fragment f on T{a} fragment g on T{...x}", "{queryT{...on U{c} ...f}} fragment g on T{...x} fragment f on T{a}"},
		{"query a{...f} query b{queryT{...f}} fragment f on T{...g} fragment g on T{...f}", "query b{queryT{...f}} query a{...f} fragment g on T{...f} fragment f on T{...g}"},
	} {
		if x, y := checks(t, read(t, l[0]), defs), checks(t, read(t, l[1]), defs); !slices.Equal(x, y) {
			t.Errorf("%q: %v, but of %q %v", l[0], x, l[1], y)
		}
	}
}

// plain are selections without inline fragments: what stands in them takes their place.
func plain(l []api.Sel) []api.Sel {
	var more []api.Sel
	for _, x := range l {
		x.Sels = plain(x.Sels)
		if x.Kind == api.SelInline {
			more = append(more, x.Sels...)
		} else {
			more = append(more, x)
		}
	}
	return more
}

// P12.2: without fragments and inline fragments nothing is broken, but ErrFragNone, just if there is a spread.
func TestPlain(t *testing.T) {
	told := 0
	for i, x := range samples.Spread(2000) {
		d, defs := changed(t, x, 30+i%300, i%4)
		d.Frags = nil
		var names []string
		for j := range d.Ops {
			d.Ops[j].Sels = plain(d.Ops[j].Sels)
			names = append(names, spreadNames(d.Ops[j].Sels)...)
		}
		want := no
		if len(names) > 0 {
			want = of(124)
			told++
		}
		breaks(t, d, defs, want...)
		if t.Failed() {
			return
		}
	}
	if told < 100 || told > 1900 {
		t.Errorf("told of %d", told)
	}
}

// spreadNames are the names of all spreads.
func spreadNames(l []api.Sel) []string {
	var names []string
	for _, x := range l {
		if x.Kind == api.SelSpread {
			names = append(names, x.Name)
		}
		names = append(names, spreadNames(x.Sels)...)
	}
	return names
}

// replaced are the names of the spreads that stand there if the Sels of its fragment stand for each spread; a spread of no fragment goes.
func replaced(names []string, d api.Doc) []string {
	var more []string
	for _, x := range names {
		if at := slices.IndexFunc(d.Frags, func(f api.Frag) bool { return f.Name == x }); at >= 0 {
			more = append(more, spreadNames(d.Frags[at].Sels)...)
		}
	}
	slices.Sort(more)
	return slices.Compact(more)
}

// P12.2: if no cycle is told, spreads can be replaced until there is none; if one is, those of a fragment never end.
func TestReplaced(t *testing.T) {
	told := 0
	for i, x := range samples.Spread(2000) {
		d, defs := changed(t, x, 30+i%60, i%5)
		m := samples.NewTrees(x*5, 0)
		for j := range d.Frags {
			for range m.Pick(3) {
				name := d.Frags[m.Pick(len(d.Frags))].Name
				d.Frags[j].Sels = append(d.Frags[j].Sels, api.Sel{Kind: api.SelSpread, Name: name})
			}
		}
		cycle := slices.Contains(checks(t, d, defs), api.ErrFragCycle)
		var left []string
		for _, o := range d.Ops {
			left = append(left, spreadNames(o.Sels)...)
		}
		for _, f := range d.Frags {
			left = append(left, f.Name)
		}
		for range len(d.Frags) + 1 {
			left = replaced(left, d)
		}
		if len(left) > 0 != cycle {
			t.Fatalf("%s: a cycle: %v, left: %q", short(d), cycle, left)
		}
		if cycle {
			told++
		}
	}
	if told < 300 || told > 1700 {
		t.Errorf("%d have a cycle", told)
	}
}

// Arguments, directives, aliases, variables, and the operations' names make no difference.
func TestBare(t *testing.T) {
	for i, x := range samples.Spread(2000) {
		d, defs := changed(t, x, 30+i%300, i%5)
		want := checks(t, d, defs)
		d = copied(d)
		bare(reflect.ValueOf(&d).Elem())
		if l := checks(t, d, defs); !slices.Equal(l, want) {
			t.Fatalf("%s: %v, not %v", short(d), l, want)
		}
	}
}

func bare(v reflect.Value) {
	switch v.Interface().(type) {
	case []api.Arg, []api.Directive, []api.Var:
		v.SetZero()
	}
	switch v.Kind() {
	case reflect.Slice:
		for i := range v.Len() {
			bare(v.Index(i))
		}
	case reflect.Struct:
		for i := range v.NumField() {
			if name := v.Type().Field(i).Name; name == "Alias" || name == "Name" && v.Type() == reflect.TypeFor[api.Op]() {
				v.Field(i).SetZero()
			}
			bare(v.Field(i))
		}
	}
}

// R4: what is answered is memory of its own, with nothing behind it; writing into it changes nothing that is told again.
func TestMemory(t *testing.T) {
	defs := types(t, wide)
	for text, want := range map[string][]api.Errno{
		"{__typename}": {}, "{...f}": {124}, "{...f} fragment f on Nope{...f} fragment g on Nope{a}": {121, 123, 125},
		"{...on Int{a} ...on Nope{a} ...on T{a} ...x ...f} fragment f on Query{...f} fragment g on T{a} fragment g on T{b}": {120, 121, 122, 123, 124, 125, 126},
	} {
		d := read(t, text)
		first, second := frags.Check(d, defs), frags.Check(d, defs)
		if room := first[len(first):cap(first)]; slices.ContainsFunc(room, func(e api.Errno) bool { return e != 0 }) {
			t.Errorf("%q: %v behind %v", text, room, first)
		}
		all := first[:cap(first)]
		for i := range all {
			all[i] = -1
		}
		if third := frags.Check(d, defs); !slices.Equal(second, want) || !slices.Equal(third, want) {
			t.Errorf("%q: %v, then %v, not %v", text, second, third, want)
		}
	}
}

// R3: a list that is not there is as an empty one.
func TestEmpty(t *testing.T) {
	for i, x := range samples.Spread(300) {
		d, defs := changed(t, x, 30+i, 1)
		want := checks(t, d, defs)
		if l := checks(t, emptied(d), emptied(defs)); !slices.Equal(l, want) {
			t.Fatalf("%s: %v, not %v", short(d), l, want)
		}
	}
}

// emptied is a value whose empty lists are all nil.
func emptied[T any](x T) T {
	x = copied(x)
	setNil(reflect.ValueOf(&x).Elem())
	return x
}

func setNil(v reflect.Value) {
	switch v.Kind() {
	case reflect.Slice:
		for i := range v.Len() {
			setNil(v.Index(i))
		}
		if v.Len() == 0 {
			v.SetZero()
		}
	case reflect.Struct:
		for i := range v.NumField() {
			setNil(v.Field(i))
		}
	}
}

// tells holds Check, of what is too large for the model, against rules.
func tells(t *testing.T, d api.Doc, defs []api.Def, rules ...api.Errno) {
	t.Helper()
	if l := frags.Check(d, defs); !slices.Equal(l, rules) {
		t.Errorf("%v, not %v", l, rules)
	}
}

// R1: what is deep.
func TestDeep(t *testing.T) {
	defs := types(t, chapter)
	for _, x := range []api.Sel{{Name: "b"}, {Kind: api.SelInline}, {Kind: api.SelInline, On: "T"}} {
		for _, c := range []struct {
			last  api.Sel
			rules []api.Errno
		}{
			{api.Sel{Name: "a"}, of(123)}, {api.Sel{Kind: api.SelSpread, Name: "f"}, of(125)}, {api.Sel{Kind: api.SelSpread, Name: "g"}, of(123, 124)},
			{api.Sel{Kind: api.SelInline, On: "T"}, of(123)}, {api.Sel{Kind: api.SelInline, On: "Nope"}, of(121, 123)}, {api.Sel{Kind: api.SelInline, On: "Int"}, of(122, 123)}, {api.Sel{Kind: api.SelInline, On: "Query"}, of(123, 126)},
		} {
			l := []api.Sel{c.last}
			for range 1 << 16 {
				x.Sels = l
				l = []api.Sel{x}
			}
			tells(t, api.Doc{Frags: []api.Frag{{Name: "f", On: "T", Sels: l}}}, defs, c.rules...)
		}
	}
}

// chain is a row of fragments, each of which spreads the next, by their names; what the last one spreads is handed in.
func chain(n int, last ...string) []api.Frag {
	var l []api.Frag
	for i := range n {
		to := last
		if i+1 < n {
			to = []string{"f" + strconv.Itoa(i+1)}
		}
		l = append(l, api.Frag{Name: "f" + strconv.Itoa(i), On: "T", Sels: spreads(to)})
	}
	return l
}

// Many fragments in a row: one by one, or round.
func TestLong(t *testing.T) {
	const many = 100000
	defs := []api.Def{object("Query", "T"), object("T", "T")}
	ops := []api.Op{{Sels: []api.Sel{{Name: "T", Sels: spreads([]string{"f0"})}}}}
	tells(t, api.Doc{Ops: ops, Frags: chain(many)}, defs)
	tells(t, api.Doc{Frags: chain(many)}, defs, 123)
	tells(t, api.Doc{Ops: ops, Frags: chain(many, "x")}, defs, 124)
	tells(t, api.Doc{Ops: ops, Frags: chain(many, "f0")}, defs, 125)
	tells(t, api.Doc{Ops: ops, Frags: chain(many, "f99999")}, defs, 125)
	backwards := chain(many)
	slices.Reverse(backwards)
	tells(t, api.Doc{Ops: ops, Frags: backwards}, defs)
	backwards[0].On = "Nope"
	tells(t, api.Doc{Ops: ops, Frags: backwards}, defs, 121)
	backwards[0].On = "Query"
	tells(t, api.Doc{Ops: ops, Frags: backwards}, defs, 126)
	backwards[0].On = "T"
	tells(t, api.Doc{Ops: ops, Frags: append(backwards, backwards[7])}, defs, 120)
}

// Many fragments, each of which leads to many others: there are more ways through them than can be gone.
func TestWide(t *testing.T) {
	const many = 1000
	defs := []api.Def{object("Query", "T"), object("T", "T")}
	ops := []api.Op{{Sels: []api.Sel{{Name: "T", Sels: spreads([]string{"f0"})}}}}
	var names []string
	for i := range many {
		names = append(names, "f"+strconv.Itoa(i))
	}
	frags := func(to func(i int) []string) []api.Frag {
		var l []api.Frag
		for i, name := range names {
			l = append(l, api.Frag{Name: name, On: "T", Sels: spreads(to(i))})
		}
		return l
	}
	later := frags(func(i int) []string { return names[i+1:] })
	tells(t, api.Doc{Ops: ops, Frags: later}, defs)
	slices.Reverse(later)
	tells(t, api.Doc{Ops: ops, Frags: later}, defs)
	tells(t, api.Doc{Ops: ops, Frags: frags(func(i int) []string { return names[i:] })}, defs, 125)
	tells(t, api.Doc{Ops: ops, Frags: frags(func(i int) []string { return names })}, defs, 125)
	later[0].Sels = spreads(names[500:501])
	tells(t, api.Doc{Ops: ops, Frags: later}, defs, 125)
	later[0].Sels = spreads([]string{"x"})
	tells(t, api.Doc{Ops: ops, Frags: later}, defs, 124)
	// Two steps of two spreads each, many times: twice as many ways with each.
	twice := frags(func(i int) []string {
		return append(slices.Clip(names[i+1:min(i+2, many)]), names[i+1:min(i+2, many)]...)
	})
	tells(t, api.Doc{Ops: ops, Frags: twice}, defs)
}
