package valid_test

import (
	"reflect"
	"slices"
	"strconv"
	"strings"
	"testing"

	"rhizome/api"
	"rhizome/gen"
	"rhizome/print"
	"rhizome/samples"
	"rhizome/valid"
)

// rows are all lists of at most n of the pieces.
func rows[T any](n int, pieces []T) [][]T {
	all := [][]T{nil}
	for ahead := all; n > 0; n-- {
		var longer [][]T
		for _, l := range ahead {
			for _, x := range pieces {
				longer = append(longer, append(slices.Clip(l), x))
			}
		}
		all, ahead = append(all, longer...), longer
	}
	return all
}

// madeTypes are the definitions of a schema that may be.
func madeTypes(t *testing.T, m *samples.Trees) []api.Def {
	t.Helper()
	defs, e := gen.Types(m.Allowed())
	if e != api.OK {
		t.Fatal(e)
	}
	return defs
}

// made are definitions, and a document that breaks none of the rules.
func made(t *testing.T, x uint64, tokens int) (api.Doc, []api.Def) {
	m := samples.NewTrees(x, tokens)
	defs := madeTypes(t, m)
	return m.Merged(defs), defs
}

// What is asked as it may be breaks nothing.
func TestMade(t *testing.T) {
	for i, x := range samples.Spread(1000) {
		d, defs := made(t, x, 30+i%800)
		breaks(t, d, defs)
		if t.Failed() {
			return
		}
	}
}

// Any documents that texts come to, of any definitions.
func TestMadeAny(t *testing.T) {
	for i, x := range samples.Spread(2000) {
		m := samples.NewTrees(x, 20+i%200)
		defs := madeTypes(t, m)
		d := api.Doc{Ops: []api.Op{m.Op()}}
		for range m.Pick(3) {
			d.Ops = append(d.Ops, m.Op())
		}
		for range m.Pick(4) {
			d.Frags = append(d.Frags, m.Frag())
		}
		checks(t, d, defs)
		if t.Failed() {
			return
		}
	}
}

// changer makes changes in trees: at each place that it is led over, if its turn has come.
type changer struct {
	m    *samples.Trees
	turn int // how many places are passed by
}

// all leads over all places of a value.
func (c *changer) all(v reflect.Value) {
	switch v.Kind() {
	case reflect.Slice:
		for i := range v.Len() {
			c.all(v.Index(i))
		}
		c.place(func() { c.list(v) })
	case reflect.Struct:
		for i := range v.NumField() {
			c.all(v.Field(i))
		}
	case reflect.String:
		c.place(func() { v.SetString(c.word()) })
	case reflect.Int:
		c.place(func() { v.SetInt(int64(c.m.Pick(11) - 1)) })
	case reflect.Bool:
		c.place(func() { v.SetBool(!v.Bool()) })
	}
}

func (c *changer) place(change func()) {
	if c.turn == 0 {
		change()
	}
	c.turn--
}

func (c *changer) word() string {
	l := strings.Fields("T U Query Mutation String Int Boolean ID a b id if skip include __typename filter first f0 f1 v0 v1 o0 ! [ ![! 1 x ?")
	if n := c.m.Pick(len(l) + 1); n < len(l) {
		return l[n]
	}
	return ""
}

// list takes one away, or puts one there again, or puts one there that is empty or, of directives, as it may be.
func (c *changer) list(v reflect.Value) {
	n := v.Len()
	switch at := c.m.Pick(n + 1); {
	case at == n && v.Type() == reflect.TypeFor[[]api.Directive]() && c.m.Pick(2) == 0:
		v.Set(reflect.Append(v, reflect.ValueOf(api.Directive{Name: "skip", Args: []api.Arg{{Name: "if", Value: api.Value{Kind: api.ValTrue}}}})))
	case at == n:
		v.Set(reflect.Append(v, reflect.Zero(v.Type().Elem())))
	case c.m.Pick(2) == 0:
		v.Set(reflect.AppendSlice(v.Slice(0, at), v.Slice(at+1, n)))
	default:
		v.Set(reflect.Append(v, v.Index(at)))
	}
}

// change makes a change somewhere in a value that is handed in by its address.
func change(m *samples.Trees, v reflect.Value) {
	count := &changer{m: m, turn: -1}
	count.all(v.Elem())
	c := &changer{m: m, turn: m.Pick(-1 - count.turn)}
	c.all(v.Elem())
}

// changed is a document, with its definitions, in which so many things are not as they were.
func changed(t *testing.T, x uint64, tokens, many int) (api.Doc, []api.Def) {
	d, defs := made(t, x, tokens)
	d, defs = copied(d), copied(defs)
	m := samples.NewTrees(^x, 0)
	for range many {
		switch n := m.Pick(10); {
		case n < 2:
			change(m, reflect.ValueOf(&defs))
		case n == 2 && len(d.Frags) > 0:
			f, to := &d.Frags[m.Pick(len(d.Frags))], d.Frags[m.Pick(len(d.Frags))]
			f.Sels = append(f.Sels, api.Sel{Kind: api.SelSpread, Name: to.Name})
		default:
			change(m, reflect.ValueOf(&d))
		}
	}
	return d, defs
}

// layersOf are the layers whose rules are told.
func layersOf(l []api.Errno) int {
	seen := map[api.Errno]bool{}
	for _, e := range l {
		seen[e/10] = true
	}
	return len(seen)
}

// P15.1: trees that no text comes to, and definitions that no schema has: what is told is what the four layers tell.
func TestChanged(t *testing.T) {
	odd, layers, told, answers := 0, map[int]int{}, map[api.Errno]int{}, map[string]int{}
	for i, x := range samples.Spread(8000) {
		d, defs := changed(t, x, 30+i%100, 1+i%30)
		l := checks(t, d, defs)
		if t.Failed() {
			return
		}
		for _, e := range l {
			told[e]++
		}
		answers[short(l)]++
		layers[layersOf(l)]++
		if print.Check(d) != api.OK {
			odd++
		}
	}
	for _, e := range all() {
		if told[e] < 10 {
			t.Errorf("%d was told %d times", e, told[e])
		}
	}
	if len(answers) < 300 || odd < 2000 || layers[0] < 300 || layers[1] < 1000 || layers[2] < 1000 || layers[3] < 300 || layers[4] < 20 {
		t.Errorf("%d unlike answers, %d documents of no text, of so many layers each: %v", len(answers), odd, layers)
	}
}

// Trees that no text comes to, one by one.
func TestNoText(t *testing.T) {
	defs := types(t, wide)
	spread := api.Sel{Kind: api.SelSpread, Name: "f", Sels: []api.Sel{{Name: "nope"}, {Kind: api.SelSpread, Name: "g"}}}
	args := []api.Arg{{Name: "a", Value: api.Value{Kind: api.ValVar, Text: "a"}}, {Name: "a"}}
	one := func(x ...api.Sel) []api.Op { return []api.Op{{Sels: x}} }
	for _, x := range []broken{
		{api.Doc{Ops: []api.Op{{}, {}}, Frags: []api.Frag{{}, {}}}, of(110, 120, 121, 123)},
		{api.Doc{Ops: []api.Op{{Kind: -1}, {Kind: 9, Name: "a"}}}, of(110, 111)},
		{api.Doc{Ops: one(api.Sel{})}, of(112)},
		{api.Doc{Ops: one(spread)}, of(124)},
		{api.Doc{Ops: one(spread), Frags: []api.Frag{{Name: "f", On: "Query"}}}, of(124)},
		{api.Doc{Ops: one(api.Sel{Kind: -1, Name: "a", Args: args})}, of(115, 136)},
		{api.Doc{Ops: one(api.Sel{Kind: api.SelInline, On: "T", Args: args, Directives: []api.Directive{{}}})}, of(115, 117, 126, 136)},
		{api.Doc{Ops: one(api.Sel{Name: "__typename", Args: args[:1]}, api.Sel{Name: "__typename"})}, of(114, 136, 140)},
		{api.Doc{Ops: one(api.Sel{Name: "__typename", Args: []api.Arg{{Value: api.Value{Kind: api.ValObject, Names: []string{"", ""}}}}})}, of(114, 132)},
		{api.Doc{Ops: []api.Op{{Vars: []api.Var{{}, {}}}}}, of(134, 135, 137)},
		{api.Doc{Ops: []api.Op{{Vars: []api.Var{{Name: "b", Type: api.Ref{Name: "Int", Wraps: "?"}, Has: true, Default: api.Value{Kind: 99}}}}}}, of(130, 137)},
	} {
		breaks(t, x.Doc, defs, x.rules...)
	}
	l := []broken{{read(t, "{a}"), of(111)}, {read(t, "{...on T{a}}"), of(111, 121)}, {read(t, "query($a:Int){a x:b}{c}"), of(110, 111, 135, 137)}, {read(t, "{x:a x:b}"), of(111, 140)}}
	for _, x := range l {
		breaks(t, x.Doc, nil, x.rules...)
	}
}

// Definitions that no schema has, one by one: kinds there are none of, names that stand twice, types that are not there.
func TestNoSchema(t *testing.T) {
	query := api.Def{Name: "Query", Kind: api.DefObject, Outs: []api.Out{{Name: "a", Type: api.Ref{Name: "Nope", Wraps: "?"}, Args: []api.In{{Name: "x", Type: api.Ref{Name: "I", Wraps: "!"}}}}}}
	input := api.Def{Name: "I", Kind: api.DefInput, Ins: []api.In{{Name: "y", Type: api.Ref{Name: "Odd"}}, {Name: "y", Type: api.Ref{Name: "Int", Wraps: "!"}}}}
	scalar := api.Def{Name: "Int"}
	for _, x := range []struct {
		defs  []api.Def
		text  string
		rules []api.Errno
	}{
		{[]api.Def{query, input, scalar}, "{a(x:{y:1})}", nil},
		{[]api.Def{query, input, scalar}, "{a(x:{y:T}){b}}", nil},
		{[]api.Def{query, input, scalar}, "{a(x:{}) ...on Query{a(x:1)}}", of(130, 133, 140)},
		{[]api.Def{query, scalar, input, {Name: "I"}}, "{a(x:{})}", of(133)},
		{[]api.Def{query, scalar, {Name: "I"}, input}, "{a(x:{})}", of(130)},
		{[]api.Def{{Name: "Query", Kind: -1}, query, input}, "{a ...on Query{a(x:{z:1})}}", of(111, 121, 140)},
		{[]api.Def{{Name: "Query", Kind: api.DefKinds}, query, input}, "{a b ...on Query{c}}", of(111, 112, 122)},
		{[]api.Def{query, {Name: "I", Kind: api.DefKinds}}, "query($a:I!){a(x:$a)}", nil},
		{[]api.Def{query, {Name: "I", Kind: -1}}, "query($a:I!){a(x:$a)}", of(135)},
		{[]api.Def{query, {Name: "I", Kind: api.DefObject}}, "query($a:[I]){a(x:$a)}", of(135, 138)},
	} {
		breaks(t, read(t, x.text), x.defs, x.rules...)
		if t.Failed() {
			t.Fatalf("%q", x.text)
		}
	}
}

// R4: what is answered is memory of its own, with nothing behind it; writing into it changes nothing that is told again.
func TestMemory(t *testing.T) {
	defs := types(t, wide)
	docs := append(alone(t), broken{read(t, "{__typename}"), nil}, together(alone(t)...))
	for _, x := range docs {
		first, second := valid.Check(x.Doc, defs), valid.Check(x.Doc, defs)
		if room := first[len(first):cap(first)]; slices.ContainsFunc(room, func(e api.Errno) bool { return e != 0 }) {
			t.Errorf("%s: %v behind %v", short(x.Doc), room, first)
		}
		all := first[:cap(first)]
		for i := range all {
			all[i] = -1
		}
		if third := valid.Check(x.Doc, defs); !slices.Equal(second, x.rules) || !slices.Equal(third, x.rules) {
			t.Errorf("%s: %v, then %v, not %v", short(x.Doc), second, third, x.rules)
		}
	}
}

// R3: a list that is not there is as an empty one.
func TestEmpty(t *testing.T) {
	for i, x := range samples.Spread(600) {
		d, defs := changed(t, x, 30+i%150, i%5)
		want := checks(t, d, defs)
		if l := checks(t, emptied(d), emptied(defs)); !slices.Equal(l, want) {
			t.Fatalf("%s: %v, not %v", short(d), l, want)
		}
	}
}

// emptied is a value whose empty lists are all nil.
func emptied[T any](x T) T {
	x = copied(x)
	setNil(reflect.ValueOf(&x).Elem())
	return x
}

func setNil(v reflect.Value) {
	switch v.Kind() {
	case reflect.Slice:
		for i := range v.Len() {
			setNil(v.Index(i))
		}
		if v.Len() == 0 {
			v.SetZero()
		}
	case reflect.Struct:
		for i := range v.NumField() {
			setNil(v.Field(i))
		}
	}
}

// R1: what is deep, and what is wide.
func TestLarge(t *testing.T) {
	const deep, many = 1 << 16, 30000
	defs := types(t, wide)
	tells := func(d api.Doc, rules ...api.Errno) {
		t.Helper()
		if l := valid.Check(d, defs); !slices.Equal(l, rules) {
			t.Errorf("%v, not %v", l, rules)
		}
	}
	for _, last := range []broken{{Doc: read(t, "{a}")}, {read(t, "{x:a x:id ...f}"), of(124, 140)}} {
		l := last.Ops[0].Sels
		for i := range deep - 2 {
			l = []api.Sel{{Kind: []int{api.SelField, api.SelInline}[i%2], Name: "c", Sels: l}}
		}
		tells(api.Doc{Ops: []api.Op{{Sels: []api.Sel{{Name: "queryT", Sels: l}}}}}, last.rules...)
	}
	v := api.Value{Kind: api.ValVar, Text: "a"}
	for range deep - 2 {
		v = api.Value{Kind: api.ValList, List: []api.Value{v}}
	}
	d := read(t, "query($a:ID!){getT(id:$a){a}}")
	d.Ops[0].Sels[0].Args[0].Value = v
	tells(d, 130)
	var wider api.Doc
	for i := range many {
		name := "q" + strconv.Itoa(i)
		wider.Ops = append(wider.Ops, api.Op{Name: name, Sels: []api.Sel{{Name: "queryT", Sels: []api.Sel{{Kind: api.SelSpread, Name: "f"}}}}})
	}
	var fields []api.Sel
	for i := range many {
		fields = append(fields, api.Sel{Alias: "a" + strconv.Itoa(i), Name: "a"})
	}
	wider.Frags = []api.Frag{{Name: "f", On: "T", Sels: fields}}
	tells(wider)
	wider.Frags[0].Sels = append(fields, api.Sel{Alias: "a7", Name: "id"}, api.Sel{Name: "nope"})
	wider.Ops = append(wider.Ops, wider.Ops[0])
	tells(wider, 110, 112, 140)
}
