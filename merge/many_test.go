package merge_test

import (
	"reflect"
	"slices"
	"strconv"
	"strings"
	"testing"

	"rhizome/api"
	"rhizome/fields"
	"rhizome/frags"
	"rhizome/gen"
	"rhizome/merge"
	"rhizome/print"
	"rhizome/samples"
	"rhizome/values"
)

// rows are all lists of at most n of the pieces.
func rows[T any](n int, pieces []T) [][]T {
	all := [][]T{nil}
	for ahead := all; n > 0; n-- {
		var longer [][]T
		for _, l := range ahead {
			for _, x := range pieces {
				longer = append(longer, append(slices.Clip(l), x))
			}
		}
		all, ahead = append(all, longer...), longer
	}
	return all
}

// sels are the selections of a text.
func sels(t *testing.T, text string) []api.Sel {
	t.Helper()
	return read(t, "{"+text+"}").Ops[0].Sels
}

// All rows of three selections in a set of T, with fragments that may stand there.
func TestSetsShort(t *testing.T) {
	defs := types(t, wide)
	pieces := sels(t, "x:a x:i a:i a x:a(y:1) x:n x:nope c{x:a} c{x:i} c{x:n} c{...f} c{...g} x:c{a} x:h{a} ...f ...g ...h ...{x:a} ...{c{x:i}} ...on T{x:i} ...on T{c{x:a}} ...on U{x:i} ...on U{c{x:i}} ...on Int{x:i} ...on Nope{c{x:i}} c{...on U{x:i}} c{c{...f}}")
	all := []string{"", "fragment f on T{x:a} fragment g on T{x:i}", "fragment f on T{...g a} fragment g on U{...f x:i}", "fragment f on T{c{...g}} fragment g on T{x:i c{x:a}}", "fragment f on T{c{c{...f}} x:a} fragment f on T{x:i} fragment g on U{c{c{c{...g}}} ...h} fragment h on T{x:i}"}
	seen := map[int]int{}
	for _, text := range all {
		d := read(t, "{a}"+text)
		d.Ops = nil
		for _, l := range rows(3, pieces) {
			d.Ops = []api.Op{{Sels: []api.Sel{{Kind: api.SelInline, On: "T", Sels: l}}}}
			seen[len(checks(t, d, defs))]++
			if t.Failed() {
				return
			}
		}
	}
	if seen[0] < 10000 || seen[1] < 10000 {
		t.Errorf("%v", seen)
	}
}

// All two trees of two steps each with one field below: of like and unlike parents and Names, by fields and inline fragments.
func TestDeepShort(t *testing.T) {
	defs := types(t, wide)
	var trees [][]api.Sel
	steps := sels(t, "c h u nope ...on T{a} ...on U{a} ...{a} ...on Nope{a} ...on Int{a}")
	last := sels(t, "x:a x:i x:n x:nope")
	for _, row := range rows(2, steps) {
		for _, x := range last {
			l := []api.Sel{x}
			for _, s := range slices.Backward(row) {
				s.Sels = l
				l = []api.Sel{s}
			}
			trees = append(trees, l)
		}
	}
	for _, parent := range []string{"T", "Nope"} {
		for _, l := range trees {
			for _, others := range trees {
				both := slices.Concat(l, others)
				checks(t, api.Doc{Frags: []api.Frag{{On: parent, Sels: both}}}, defs)
			}
			if t.Failed() {
				return
			}
		}
	}
}

// spreads are selections that spread each of the names.
func spreads(names ...string) []api.Sel {
	var l []api.Sel
	for _, x := range names {
		l = append(l, api.Sel{Kind: api.SelSpread, Name: x})
	}
	return l
}

// All ways in which two operations and three fragments lead to fragments, within fields or not; of these, two have fields of one response name that are unlike.
func TestLeads(t *testing.T) {
	defs := types(t, wide)
	var some [][]api.Sel
	for bits := range 8 {
		var l []string
		for i, name := range []string{"f", "g", "h"} {
			if bits>>i&1 == 1 {
				l = append(l, name)
			}
		}
		some = append(some, spreads(l...))
	}
	own := [][]api.Sel{sels(t, "x:a"), sels(t, "y:a"), sels(t, "x:i")}
	seen := map[int]int{}
	for _, names := range [][]string{{"f", "g", "h"}, {"f", "f", "h"}, {"g", "f", "g"}} {
		for _, field := range []string{"", "c"} {
			for n := range 1 << 9 {
				var l []api.Frag
				for i, x := range names {
					to := some[n>>(3*i)&7]
					if field != "" {
						to = []api.Sel{{Name: field, Sels: to}}
					}
					l = append(l, api.Frag{Name: x, On: "T", Sels: slices.Concat(own[i], to)})
				}
				for i := range some {
					seen[len(checks(t, api.Doc{Ops: []api.Op{{Sels: some[i]}, {Sels: some[7-i]}}, Frags: l}, defs))]++
					seen[len(checks(t, api.Doc{Ops: []api.Op{{Sels: []api.Sel{{Name: "getT", Sels: some[i]}, {Name: "getT", Sels: some[7-i]}}}}, Frags: l}, defs))]++
				}
				if t.Failed() {
					return
				}
			}
		}
	}
	if seen[0] < 3000 || seen[1] < 3000 {
		t.Errorf("%v", seen)
	}
}

// All rows of up to three arguments, of two names and three values.
func TestArgumentsShort(t *testing.T) {
	defs := types(t, wide)
	var args []api.Arg
	for _, name := range []string{"a", "b"} {
		for _, text := range []string{"1", "2"} {
			args = append(args, api.Arg{Name: name, Value: api.Value{Kind: api.ValInt, Text: text}})
		}
	}
	all := rows(3, args)
	for _, l := range all {
		for _, others := range all {
			checks(t, api.Doc{Ops: []api.Op{{Sels: []api.Sel{{Name: "q", Args: l}, {Name: "q", Args: others}}}}}, defs)
		}
		if t.Failed() {
			return
		}
	}
}

// madeTypes are the definitions of a schema that may be.
func madeTypes(t *testing.T, m *samples.Trees) []api.Def {
	t.Helper()
	defs, e := gen.Types(m.Allowed())
	if e != api.OK {
		t.Fatal(e)
	}
	return defs
}

// made are definitions, and a document that breaks none of the rules.
func made(t *testing.T, x uint64, tokens int) (api.Doc, []api.Def) {
	m := samples.NewTrees(x, tokens)
	defs := madeTypes(t, m)
	return m.Merged(defs), defs
}

// What is asked as it may be breaks nothing, neither of the rules of other layers.
func TestMade(t *testing.T) {
	spread, meet := 0, 0
	for i, x := range samples.Spread(1500) {
		d, defs := made(t, x, 30+i%800)
		breaks(t, d, defs)
		if e := print.Check(d); e != api.OK {
			t.Errorf("%s: %d", short(d), e)
		}
		if l := slices.Concat(fields.Check(d, defs), frags.Check(d, defs), values.Check(d, defs)); l != nil {
			t.Errorf("%s: %v", short(d), l)
		}
		if len(d.Frags) > 1 {
			spread++
		}
		if modelMet(d, defs) > 0 {
			meet++
		}
		if t.Failed() {
			return
		}
	}
	if spread < 300 || meet < 300 {
		t.Errorf("only %d with fragments, %d with fields that meet", spread, meet)
	}
}

// Documents in which aliases are as they come.
func TestMadeAliases(t *testing.T) {
	seen := map[int]int{}
	for i, x := range samples.Spread(3000) {
		m := samples.NewTrees(x, 20+i%100)
		defs := madeTypes(t, m)
		seen[len(checks(t, m.Asked(defs), defs))]++
		if t.Failed() {
			return
		}
	}
	if seen[0] < 500 || seen[1] < 500 {
		t.Errorf("%v", seen)
	}
}

// Any documents, of any definitions.
func TestMadeAny(t *testing.T) {
	for i, x := range samples.Spread(3000) {
		m := samples.NewTrees(x, 20+i%200)
		defs := madeTypes(t, m)
		d := api.Doc{Ops: []api.Op{m.Op()}}
		for range m.Pick(4) {
			d.Frags = append(d.Frags, m.Frag())
		}
		checks(t, d, defs)
		if t.Failed() {
			return
		}
	}
}

// changer makes changes in trees: at each place that it is led over, if its turn has come.
type changer struct {
	m    *samples.Trees
	turn int // how many places are passed by
}

// all leads over all places of a value that may make a difference here.
func (c *changer) all(v reflect.Value) {
	switch v.Interface().(type) {
	case []api.Directive, []api.Var:
		return
	}
	switch v.Kind() {
	case reflect.Slice:
		for i := range v.Len() {
			c.all(v.Index(i))
		}
		c.place(func() { c.list(v) })
	case reflect.Struct:
		for i := range v.NumField() {
			c.all(v.Field(i))
		}
	case reflect.String:
		c.place(func() { v.SetString(c.word()) })
	case reflect.Int:
		c.place(func() { v.SetInt(int64(c.m.Pick(8) - 1)) })
	}
}

func (c *changer) place(change func()) {
	if c.turn == 0 {
		change()
	}
	c.turn--
}

func (c *changer) word() string {
	l := strings.Fields("T U Query Int Boolean ID E a b c id on query filter first __typename f0 f1 f2 f3 v0 ! [ ![! 1 x ?")
	if n := c.m.Pick(len(l) + 1); n < len(l) {
		return l[n]
	}
	return ""
}

// list takes one away, or puts one there again, or puts one there that is empty.
func (c *changer) list(v reflect.Value) {
	n := v.Len()
	switch at := c.m.Pick(n + 1); {
	case at == n:
		v.Set(reflect.Append(v, reflect.Zero(v.Type().Elem())))
	case c.m.Pick(3) == 0:
		v.Set(reflect.AppendSlice(v.Slice(0, at), v.Slice(at+1, n)))
	default:
		v.Set(reflect.Append(v, v.Index(at)))
	}
}

// change makes a change somewhere in a value that is handed in by its address.
func change(m *samples.Trees, v reflect.Value) {
	count := &changer{m: m, turn: -1}
	count.all(v.Elem())
	c := &changer{m: m, turn: m.Pick(-1 - count.turn)}
	c.all(v.Elem())
}

// more puts a selection there again, in some of the sets of a list's selections.
func more(m *samples.Trees, l []api.Sel) []api.Sel {
	for i := range l {
		l[i].Sels = more(m, l[i].Sels)
	}
	if len(l) > 0 && m.Pick(2) == 0 {
		x := copied(l[m.Pick(len(l))])
		l = slices.Insert(slices.Clip(l), m.Pick(len(l)+1), x)
	}
	return l
}

// moreOf is a document with selections that stand there already.
func moreOf(m *samples.Trees, d api.Doc) api.Doc {
	d = copied(d)
	for i := range d.Ops {
		d.Ops[i].Sels = more(m, d.Ops[i].Sels)
	}
	for i := range d.Frags {
		d.Frags[i].Sels = more(m, d.Frags[i].Sels)
	}
	return d
}

// changed is a document, with its definitions, in which selections stand twice, and so many things are not as they were.
func changed(t *testing.T, x uint64, tokens, many int) (api.Doc, []api.Def) {
	d, defs := made(t, x, tokens)
	m := samples.NewTrees(^x, 0)
	d, defs = moreOf(m, d), copied(defs)
	for range many {
		if m.Pick(8) == 0 {
			change(m, reflect.ValueOf(&defs))
		} else {
			change(m, reflect.ValueOf(&d))
		}
	}
	return d, defs
}

// Documents and definitions in which one thing or more is not as it was.
func TestChanged(t *testing.T) {
	seen := map[int]int{}
	for i, x := range samples.Spread(4000) {
		d, defs := changed(t, x, 30+i%150, 1+i%5)
		seen[len(checks(t, d, defs))]++
		if t.Failed() {
			return
		}
	}
	if seen[0] < 1000 || seen[1] < 1000 {
		t.Errorf("%v", seen)
	}
}

// shuffled lays all lists of a document, but those within values, in another order.
func shuffled(m *samples.Trees, v reflect.Value) {
	switch v.Kind() {
	case reflect.Slice:
		for i := range v.Len() {
			shuffled(m, v.Index(i))
			reflect.Swapper(v.Interface())(i, m.Pick(i+1))
		}
	case reflect.Struct:
		if v.Type() == reflect.TypeFor[api.Value]() {
			return
		}
		for i := range v.NumField() {
			shuffled(m, v.Field(i))
		}
	}
}

// P14.2: in another order the same is told, where no two fragments have the same name.
func TestOrder(t *testing.T) {
	asked, told := 0, 0
	for i, x := range samples.Spread(2500) {
		d, defs := changed(t, x, 30+i%150, i%5)
		if twice(d) {
			continue
		}
		want := checks(t, d, defs)
		shuffled(samples.NewTrees(x*5, 0), reflect.ValueOf(&d).Elem())
		if l := checks(t, d, defs); !slices.Equal(l, want) {
			t.Fatalf("%s: %v, not %v", short(d), l, want)
		}
		asked++
		told += len(want)
	}
	if asked < 1500 || told < 500 {
		t.Errorf("only %d were asked, %d broke it", asked, told)
	}
}

// P14.2: a field more, as one that stands there already, breaks nothing, and mends nothing.
func TestMore(t *testing.T) {
	seen := map[int]int{}
	for i, x := range samples.Spread(2000) {
		d, defs := changed(t, x, 30+i%150, i%5)
		want := checks(t, d, defs)
		d = moreOf(samples.NewTrees(x*5, 0), d)
		if l := checks(t, d, defs); !slices.Equal(l, want) {
			t.Fatalf("%s: %v, not %v", short(d), l, want)
		}
		seen[len(want)]++
	}
	if seen[0] < 500 || seen[1] < 500 {
		t.Errorf("%v", seen)
	}
}

// named gives each field in a set an alias of its own; count is what the set has till now. Of what stands within fields and spreads the names may come again, but as in no fragment's own set.
func named(l []api.Sel, ahead string, count *int) {
	for i := range l {
		x := &l[i]
		switch x.Kind {
		case api.SelField:
			x.Alias = ahead + strconv.Itoa(*count)
			*count++
			named(x.Sels, "n", new(int))
		case api.SelInline:
			named(x.Sels, ahead, count)
		default:
			named(x.Sels, "n", new(int))
		}
	}
}

// P14.2: a document in which all response names are unlike, in each set's fields, does not break it.
func TestUnlikeNames(t *testing.T) {
	again := 0
	for i, x := range samples.Spread(2000) {
		d, defs := changed(t, x, 30+i%300, i%5)
		was := checks(t, d, defs)
		d = copied(d)
		for j := range d.Ops {
			named(d.Ops[j].Sels, "n", new(int))
		}
		for j := range d.Frags {
			named(d.Frags[j].Sels, "f"+strconv.Itoa(j)+"_", new(int))
		}
		breaks(t, d, defs)
		again += len(was)
		if t.Failed() {
			return
		}
	}
	if again < 500 {
		t.Errorf("only %d broke it", again)
	}
}

// Directives, variables and the operations' names make no difference.
func TestNoDifference(t *testing.T) {
	for i, x := range samples.Spread(2000) {
		d, defs := changed(t, x, 30+i%150, i%5)
		want := checks(t, d, defs)
		d = copied(d)
		bare(reflect.ValueOf(&d).Elem())
		if l := checks(t, d, defs); !slices.Equal(l, want) {
			t.Fatalf("%s: %v, not %v", short(d), l, want)
		}
	}
}

func bare(v reflect.Value) {
	switch v.Interface().(type) {
	case []api.Directive, []api.Var:
		v.SetZero()
	}
	switch v.Kind() {
	case reflect.Slice:
		for i := range v.Len() {
			bare(v.Index(i))
		}
	case reflect.Struct:
		for i := range v.NumField() {
			if v.Type().Field(i).Name == "Name" && v.Type() == reflect.TypeFor[api.Op]() {
				v.Field(i).SetZero()
			}
			bare(v.Field(i))
		}
	}
}

// R4: what is answered is memory of its own, with nothing behind it; writing into it changes nothing that is told again.
func TestMemory(t *testing.T) {
	defs := types(t, wide)
	for text, want := range map[string][]api.Errno{"{queryT{a a}}": {}, "{queryT{x:a x:i}}": {140}, "{queryT{...f ...f}} fragment f on T{x:a x:i c{x:a x:i}}": {140}} {
		d := read(t, text)
		first, second := merge.Check(d, defs), merge.Check(d, defs)
		if room := first[len(first):cap(first)]; slices.ContainsFunc(room, func(e api.Errno) bool { return e != 0 }) {
			t.Errorf("%q: %v behind %v", text, room, first)
		}
		all := first[:cap(first)]
		for i := range all {
			all[i] = -1
		}
		if third := merge.Check(d, defs); !slices.Equal(second, want) || !slices.Equal(third, want) {
			t.Errorf("%q: %v, then %v, not %v", text, second, third, want)
		}
	}
}

// R3: a list that is not there is as an empty one.
func TestEmpty(t *testing.T) {
	defs := types(t, wide)
	for i, x := range samples.Spread(600) {
		d, defs := changed(t, x, 30+i%150, i%3)
		want := checks(t, d, defs)
		if l := checks(t, emptied(d), emptied(defs)); !slices.Equal(l, want) {
			t.Fatalf("%s: %v, not %v", short(d), l, want)
		}
	}
	// Of two fields that meet the one may have lists that are not there, and the other one empty ones.
	v := api.Value{Kind: api.ValObject}
	w := api.Value{Kind: api.ValObject, List: []api.Value{}, Names: []string{}}
	d := api.Doc{Ops: []api.Op{{Sels: []api.Sel{{Name: "q", Args: []api.Arg{{Value: v}}}, {Name: "q", Args: []api.Arg{{Value: w}}, Sels: []api.Sel{}}, {Name: "p"}, {Name: "p", Args: []api.Arg{}}}}}}
	if l := merge.Check(d, defs); l != nil {
		t.Error(l)
	}
}

// emptied is a value whose empty lists are all nil.
func emptied[T any](x T) T {
	x = copied(x)
	setNil(reflect.ValueOf(&x).Elem())
	return x
}

func setNil(v reflect.Value) {
	switch v.Kind() {
	case reflect.Slice:
		for i := range v.Len() {
			setNil(v.Index(i))
		}
		if v.Len() == 0 {
			v.SetZero()
		}
	case reflect.Struct:
		for i := range v.NumField() {
			setNil(v.Field(i))
		}
	}
}
