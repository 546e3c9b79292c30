package values_test

import (
	"reflect"
	"slices"
	"strconv"
	"strings"
	"testing"

	"rhizome/api"
	"rhizome/fields"
	"rhizome/frags"
	"rhizome/gen"
	"rhizome/print"
	"rhizome/samples"
	"rhizome/values"
)

// rows are all lists of at most n of the pieces.
func rows[T any](n int, pieces []T) [][]T {
	all := [][]T{nil}
	for ahead := all; n > 0; n-- {
		var longer [][]T
		for _, l := range ahead {
			for _, x := range pieces {
				longer = append(longer, append(slices.Clip(l), x))
			}
		}
		all, ahead = append(all, longer...), longer
	}
	return all
}

// All small values at all small types, with a variable that may be used there.
func TestLiesShort(t *testing.T) {
	all := nested()
	for _, name := range []string{"Int", "O", "I"} {
		for _, w := range wraps(2, "!", "[", "?") {
			defs := append(odd()[1:], roots(api.In{Name: "a", Type: api.Ref{Name: name, Wraps: w}})[0])
			for i, v := range all {
				d := argument(v)
				if i%2 == 0 {
					d.Ops[0].Vars = []api.Var{{Name: "x", Type: api.Ref{Name: "Int", Wraps: []string{"", "!"}[i/2%2]}}}
				}
				checks(t, d, defs)
				if t.Failed() {
					return
				}
			}
		}
	}
}

// All types of variables, with all kinds of default values, at all types.
func TestGoesShort(t *testing.T) {
	some := []api.Var{{}, {Default: api.Value{Kind: api.ValTrue}}, {Has: true}, {Has: true, Default: api.Value{Kind: api.ValList}}, {Has: true, Default: api.Value{Kind: api.ValInt, Text: "1"}}}
	told := 0
	for _, at := range wraps(4, "!", "[", "?") {
		defs := roots(api.In{Name: "a", Type: api.Ref{Name: "Int", Wraps: at}})
		for _, own := range wraps(4, "!", "[", "?") {
			d := argument(variable("x"))
			for _, x := range some {
				x.Name, x.Type = "x", api.Ref{Name: "Int", Wraps: own}
				d.Ops[0].Vars = []api.Var{x}
				if slices.Contains(checks(t, d, defs), api.ErrVarWhere) {
					told++
				}
				x.Type.Name = "Float"
				d.Ops[0].Vars = []api.Var{x}
				if !slices.Contains(checks(t, d, defs), api.ErrVarWhere) {
					t.Errorf("%q goes for %q of another name", own, at)
				}
			}
		}
		if t.Failed() {
			return
		}
	}
	if told < 10000 {
		t.Errorf("only %d don't go", told)
	}
}

// All rows of variables, at all rows of places.
func TestVarsShort(t *testing.T) {
	var vars []api.Var
	var args []api.Arg
	for _, name := range []string{"x", "y"} {
		for _, of := range []string{"Int", "Nope", "Query"} {
			vars = append(vars, api.Var{Name: name, Type: api.Ref{Name: of}})
		}
		vars = append(vars, api.Var{Name: name, Type: api.Ref{Name: "Int"}, Has: true, Default: api.Value{Kind: api.ValTrue}})
		for _, at := range []string{"a", "b", "c"} {
			args = append(args, api.Arg{Name: at, Value: variable(name)})
		}
	}
	defs := roots(api.In{Name: "a", Type: api.Ref{Name: "Int"}}, api.In{Name: "b", Type: api.Ref{Name: "Int", Wraps: "!"}})
	for _, l := range rows(3, vars) {
		for _, row := range rows(2, args) {
			checks(t, api.Doc{Ops: []api.Op{{Vars: l, Sels: []api.Sel{{Name: "q", Args: row}}}}}, defs)
		}
		if t.Failed() {
			return
		}
	}
}

// spreads are selections that spread each of the names.
func spreads(names ...string) []api.Sel {
	var l []api.Sel
	for _, x := range names {
		l = append(l, api.Sel{Kind: api.SelSpread, Name: x})
	}
	return l
}

// All ways in which two operations and three fragments lead to fragments, of all names; each fragment uses a variable of its own.
func TestLeads(t *testing.T) {
	defs := roots(api.In{Name: "a", Type: api.Ref{Name: "Int"}})
	var some [][]api.Sel
	for bits := range 8 {
		var l []api.Sel
		for i, name := range []string{"f", "g", "h"} {
			if bits>>i&1 == 1 {
				l = append(l, spreads(name)...)
			}
		}
		some = append(some, l)
	}
	vars := []api.Var{{Name: "x0", Type: api.Ref{Name: "Int"}}, {Name: "x1", Type: api.Ref{Name: "Boolean"}}, {Name: "x2", Type: api.Ref{Name: "Int"}}}
	for _, names := range [][]string{{"f", "g", "h"}, {"f", "f", "g"}, {"g", "f", "g"}} {
		for n := range 1 << 9 {
			var l []api.Frag
			for i, x := range names {
				use := argument(variable("x" + strconv.Itoa(i))).Ops[0].Sels
				l = append(l, api.Frag{Name: x, On: "Query", Sels: append(use, some[n>>(3*i)&7]...)})
			}
			for own := range some {
				for i := range 1 << len(vars) {
					var has []api.Var
					for j, x := range vars {
						if i>>j&1 == 1 {
							has = append(has, x)
						}
					}
					checks(t, api.Doc{Ops: []api.Op{{Vars: has, Sels: some[own]}}, Frags: l}, defs)
				}
				checks(t, api.Doc{Ops: []api.Op{{Vars: vars, Sels: some[own]}, {Vars: vars[:1], Sels: some[7-own]}}, Frags: l}, defs)
			}
			if t.Failed() {
				return
			}
		}
	}
}

// All rows of two directives, with all rows of arguments, at each place.
func TestDirectivesShort(t *testing.T) {
	var args []api.Arg
	for _, name := range []string{"if", "x"} {
		for _, v := range []api.Value{{}, {Kind: api.ValTrue}, {Kind: api.ValInt}, variable("x"), object("a", "a"), {Kind: api.ValList, List: []api.Value{variable("y")}}} {
			args = append(args, api.Arg{Name: name, Value: v})
		}
	}
	var l []api.Directive
	for _, row := range rows(2, args) {
		for _, name := range []string{"skip", "x"} {
			l = append(l, api.Directive{Name: name, Args: row})
		}
	}
	l = append(l, api.Directive{Name: "include", Args: args[:1]})
	defs := roots()
	vars := []api.Var{{Name: "x", Type: api.Ref{Name: "Boolean", Wraps: "!"}}}
	for i, x := range l {
		for _, y := range []api.Directive{{}, l[(i+1)%len(l)], l[i*7%len(l)], l[len(l)-1]} {
			row := []api.Directive{x, y}
			checks(t, api.Doc{Ops: []api.Op{{Directives: row, Vars: vars}}}, defs)
			checks(t, api.Doc{Ops: []api.Op{{Vars: []api.Var{{Name: "x", Type: vars[0].Type, Directives: row}}}}}, defs)
			checks(t, api.Doc{Frags: []api.Frag{{Directives: row}}}, defs)
			checks(t, api.Doc{Ops: []api.Op{{Sels: spreads("f"), Vars: vars}}, Frags: []api.Frag{{Name: "f", Directives: row}}}, defs)
			for kind := -1; kind <= api.SelKinds; kind++ {
				checks(t, api.Doc{Ops: []api.Op{{Vars: vars, Sels: []api.Sel{{Kind: kind, Directives: row}}}}}, defs)
			}
		}
		if t.Failed() {
			return
		}
	}
}

// madeTypes are the definitions of a schema that may be.
func madeTypes(t *testing.T, m *samples.Trees) []api.Def {
	t.Helper()
	defs, e := gen.Types(m.Allowed())
	if e != api.OK {
		t.Fatal(e)
	}
	return defs
}

// made are definitions, and a document that breaks none of the rules.
func made(t *testing.T, x uint64, tokens int) (api.Doc, []api.Def) {
	m := samples.NewTrees(x, tokens)
	defs := madeTypes(t, m)
	return m.Valued(defs), defs
}

// What is asked as it may be breaks nothing, neither of the rules of other layers.
func TestMade(t *testing.T) {
	shared, vars := 0, 0
	for i, x := range samples.Spread(1500) {
		d, defs := made(t, x, 30+i%800)
		breaks(t, d, defs)
		if e := print.Check(d); e != api.OK {
			t.Errorf("%s: %d", short(d), e)
		}
		if l := slices.Concat(fields.Check(d, defs), frags.Check(d, defs)); l != nil {
			t.Errorf("%s: %v", short(d), l)
		}
		for _, x := range d.Ops {
			vars += len(x.Vars)
		}
		if len(d.Ops) > 1 && len(d.Frags) > 1 {
			shared++
		}
		if t.Failed() {
			return
		}
	}
	if shared < 300 || vars < 3000 {
		t.Errorf("only %d with operations and fragments, %d variables", shared, vars)
	}
}

// Values that fit types, at each type of made definitions: they fit, and what is close by fits as the model says.
func TestFitting(t *testing.T) {
	fit, not := 0, 0
	for i, x := range samples.Spread(600) {
		m := samples.NewTrees(x, 100+i)
		defs := madeTypes(t, m)
		for range 4 {
			d := defs[m.Pick(len(defs))]
			if d.Kind == api.DefObject {
				continue
			}
			at := api.Ref{Name: d.Name, Wraps: []string{"", "!", "[", "![!"}[m.Pick(4)]}
			v := m.Fitting(defs, at)
			holds(t, v, at, defs, true)
			v = copied(v)
			change(m, reflect.ValueOf(&v))
			if is, want := values.Fits(v, at, defs), modelFits(v, at, defs); is != want {
				t.Fatalf("%s at %v of %s: %v, not %v", short(v), at, short(defs), is, want)
			} else if is {
				fit++
			} else {
				not++
			}
		}
	}
	if fit < 300 || not < 300 {
		t.Errorf("%d fit, %d don't", fit, not)
	}
}

// Any documents, of any definitions.
func TestMadeAny(t *testing.T) {
	for i, x := range samples.Spread(3000) {
		m := samples.NewTrees(x, 20+i%200)
		defs := madeTypes(t, m)
		d := api.Doc{Ops: []api.Op{m.Op()}}
		if i%2 == 0 {
			d = m.Asked(defs)
		}
		for range m.Pick(4) {
			d.Frags = append(d.Frags, m.Frag())
		}
		checks(t, d, defs)
		if t.Failed() {
			return
		}
	}
}

// changer makes changes in trees: at each place that it is led over, if its turn has come.
type changer struct {
	m    *samples.Trees
	turn int // how many places are passed by
}

// all leads over all places of a value.
func (c *changer) all(v reflect.Value) {
	switch v.Kind() {
	case reflect.Slice:
		for i := range v.Len() {
			c.all(v.Index(i))
		}
		c.place(func() { c.list(v) })
	case reflect.Struct:
		for i := range v.NumField() {
			c.all(v.Field(i))
		}
		if v.Type() == reflect.TypeFor[api.Value]() {
			c.place(func() { v.Set(reflect.ValueOf(c.value())) })
		}
	case reflect.String:
		c.place(func() { v.SetString(c.word()) })
	case reflect.Bool:
		c.place(func() { v.SetBool(!v.Bool()) })
	case reflect.Int:
		c.place(func() { v.SetInt(int64(c.m.Pick(12) - 1)) })
	}
}

func (c *changer) place(change func()) {
	if c.turn == 0 {
		change()
	}
	c.turn--
}

func (c *changer) word() string {
	l := strings.Fields("T U Query Int Boolean ID E a b id if skip filter and not eq in first input f0 f1 f2 v0 v1 v2 v3 ! [ ![! 1 -1 1.5 1e999 2147483648 A x ?")
	if n := c.m.Pick(len(l) + 1); n < len(l) {
		return l[n]
	}
	return ""
}

func (c *changer) value() api.Value {
	switch c.m.Pick(3) {
	case 0:
		return variable("v" + strconv.Itoa(c.m.Pick(5)))
	case 1:
		return object([]string{"a", "x", "eq", "not", "and"}[:c.m.Pick(6)]...)
	}
	return c.m.Value(2, false)
}

// list takes one away, or puts one there again, or puts one there that is empty.
func (c *changer) list(v reflect.Value) {
	n := v.Len()
	switch at := c.m.Pick(n + 1); {
	case at == n:
		v.Set(reflect.Append(v, reflect.Zero(v.Type().Elem())))
	case c.m.Pick(2) == 0:
		v.Set(reflect.AppendSlice(v.Slice(0, at), v.Slice(at+1, n)))
	default:
		v.Set(reflect.Append(v, v.Index(at)))
	}
}

// change makes a change somewhere in a value that is handed in by its address.
func change(m *samples.Trees, v reflect.Value) {
	count := &changer{m: m, turn: -1}
	count.all(v.Elem())
	c := &changer{m: m, turn: m.Pick(-1 - count.turn)}
	c.all(v.Elem())
}

// changed is a document, with its definitions, in which so many things are not as they were.
func changed(t *testing.T, x uint64, tokens, many int) (api.Doc, []api.Def) {
	d, defs := made(t, x, tokens)
	d, defs = copied(d), copied(defs)
	m := samples.NewTrees(^x, 0)
	for range many {
		if m.Pick(5) == 0 {
			change(m, reflect.ValueOf(&defs))
		} else {
			change(m, reflect.ValueOf(&d))
		}
	}
	return d, defs
}

// Documents and definitions in which one thing or more is not as it was.
func TestChanged(t *testing.T) {
	seen := map[string]int{}
	for i, x := range samples.Spread(6000) {
		d, defs := changed(t, x, 100+i%200, 1+i%5)
		seen[short(checks(t, d, defs))]++
		if t.Failed() {
			return
		}
	}
	for e := api.ErrValueType; e <= api.ErrVarWhere; e++ {
		if name := "[" + strconv.Itoa(int(e)) + "]"; seen[name] == 0 {
			t.Errorf("%s was never told alone", name)
		}
	}
	if len(seen) < 30 {
		t.Errorf("only %d unlike answers", len(seen))
	}
}

// shuffled lays all lists of a document in another order; of an object names and values alike.
func shuffled(m *samples.Trees, v reflect.Value) {
	switch v.Kind() {
	case reflect.Slice:
		for i := range v.Len() {
			shuffled(m, v.Index(i))
			reflect.Swapper(v.Interface())(i, m.Pick(i+1))
		}
	case reflect.Struct:
		if x, ok := v.Interface().(api.Value); ok && len(x.Names) > 0 {
			for i := range x.Names {
				shuffled(m, v.FieldByName("List").Index(i))
				j := m.Pick(i + 1)
				x.Names[i], x.Names[j] = x.Names[j], x.Names[i]
				x.List[i], x.List[j] = x.List[j], x.List[i]
			}
			return
		}
		for i := range v.NumField() {
			shuffled(m, v.Field(i))
		}
	}
}

// twice: do two things of one list have the same name, or has an object fewer values than names?
func twice(v reflect.Value) bool {
	switch v.Kind() {
	case reflect.Slice:
		seen := map[string]bool{}
		for i := range v.Len() {
			x := v.Index(i)
			name := x
			if x.Kind() == reflect.Struct && x.Type() != reflect.TypeFor[api.Sel]() {
				name = x.FieldByName("Name")
			}
			if name.IsValid() && name.Kind() == reflect.String {
				if seen[name.String()] {
					return true
				}
				seen[name.String()] = true
			}
			if twice(x) {
				return true
			}
		}
	case reflect.Struct:
		if x, ok := v.Interface().(api.Value); ok && len(x.Names) != len(x.List) && len(x.Names) > 0 {
			return true
		}
		for i := range v.NumField() {
			if twice(v.Field(i)) {
				return true
			}
		}
	}
	return false
}

// P13.2: in another order the same is told, where no two things have the same name.
func TestOrder(t *testing.T) {
	asked, told := 0, 0
	for i, x := range samples.Spread(4000) {
		d, defs := changed(t, x, 100+i%300, i%5)
		if twice(reflect.ValueOf(d)) || twice(reflect.ValueOf(defs)) {
			continue
		}
		want := checks(t, d, defs)
		shuffled(samples.NewTrees(x*5, 0), reflect.ValueOf(&d).Elem())
		if i%2 == 0 {
			shuffled(samples.NewTrees(x*7, 0), reflect.ValueOf(&defs).Elem())
		}
		if l := checks(t, d, defs); !slices.Equal(l, want) {
			t.Fatalf("%s: %v, not %v", short(d), l, want)
		}
		asked++
		told += min(len(want), 1)
	}
	if asked < 700 || told < 300 {
		t.Errorf("only %d were asked, %d broke something", asked, told)
	}
	defs := types(t, wide)
	for _, l := range [][2]string{
		{"query($a:Int,$b:E){queryT(first:$a,offset:$b){a}}", "query($b:E,$a:Int){queryT(offset:$b,first:$a){a}}"}, {"{a@skip(if:1)@x(y:{z:1,y:2})}", "{a@x(y:{y:2,z:1})@skip(if:1)}"},
		{"query a($x:Int){...f} query b{...g} fragment f on T{a(b:$y)} fragment g on T{a}", "query b{...g} query a($x:Int){...f} fragment g on T{a} fragment f on T{a(b:$y)}"},
		{"mutation{addT(input:[{a:1},{x:1,o:2}]){a}}", "mutation{addT(input:[{o:2,x:1},{a:1}]){a}}"},
	} {
		if x, y := checks(t, read(t, l[0]), defs), checks(t, read(t, l[1]), defs); !slices.Equal(x, y) {
			t.Errorf("%q: %v, but of %q %v", l[0], x, l[1], y)
		}
	}
}

// P13.2: a document without variables, arguments and directives breaks none, whatever else it has.
func TestBareMade(t *testing.T) {
	for i, x := range samples.Spread(2000) {
		d, defs := changed(t, x, 30+i%300, i%5)
		bare(reflect.ValueOf(&d).Elem())
		breaks(t, d, defs)
		if t.Failed() {
			return
		}
	}
}

func bare(v reflect.Value) {
	switch v.Interface().(type) {
	case []api.Arg, []api.Directive, []api.Var:
		v.SetZero()
	}
	switch v.Kind() {
	case reflect.Slice:
		for i := range v.Len() {
			bare(v.Index(i))
		}
	case reflect.Struct:
		for i := range v.NumField() {
			bare(v.Field(i))
		}
	}
}

// Names of operations, aliases and conditions of what has no fields make no difference.
func TestNoDifference(t *testing.T) {
	for i, x := range samples.Spread(1000) {
		d, defs := changed(t, x, 30+i%300, i%5)
		want := checks(t, d, defs)
		d = copied(d)
		for j := range d.Ops {
			d.Ops[j].Name = "x"
			for k := range d.Ops[j].Sels {
				d.Ops[j].Sels[k].Alias = "y"
			}
		}
		if l := checks(t, d, defs); !slices.Equal(l, want) {
			t.Fatalf("%s: %v, not %v", short(d), l, want)
		}
	}
}

// R4: what is answered is memory of its own, with nothing behind it; writing into it changes nothing that is told again.
func TestMemory(t *testing.T) {
	defs := types(t, wide)
	for text, want := range map[string][]api.Errno{
		"{__typename}": {}, "{getT(id:1.5){a}}": {130}, "{queryT(filter:{x:1,x:2}){a}}": {131, 132}, "query($a:T,$a:Nope){__typename}": {134, 135, 137},
		"mutation($a:Int,$a:Nope,$b:T,$b:Int){addT(input:[{x:1,x:1},{a:$a,o:$a,e:C}]){b(first:$y){a}}}": {130, 131, 132, 133, 134, 135, 136, 137, 138},
	} {
		d := read(t, text)
		first, second := values.Check(d, defs), values.Check(d, defs)
		if room := first[len(first):cap(first)]; slices.ContainsFunc(room, func(e api.Errno) bool { return e != 0 }) {
			t.Errorf("%q: %v behind %v", text, room, first)
		}
		all := first[:cap(first)]
		for i := range all {
			all[i] = -1
		}
		if third := values.Check(d, defs); !slices.Equal(second, want) || !slices.Equal(third, want) {
			t.Errorf("%q: %v, then %v, not %v", text, second, third, want)
		}
	}
}

// R3: a list that is not there is as an empty one.
func TestEmpty(t *testing.T) {
	for i, x := range samples.Spread(300) {
		d, defs := changed(t, x, 30+i, 1)
		want := checks(t, d, defs)
		if l := checks(t, emptied(d), emptied(defs)); !slices.Equal(l, want) {
			t.Fatalf("%s: %v, not %v", short(d), l, want)
		}
	}
}

// emptied is a value whose empty lists are all nil.
func emptied[T any](x T) T {
	x = copied(x)
	setNil(reflect.ValueOf(&x).Elem())
	return x
}

func setNil(v reflect.Value) {
	switch v.Kind() {
	case reflect.Slice:
		for i := range v.Len() {
			setNil(v.Index(i))
		}
		if v.Len() == 0 {
			v.SetZero()
		}
	case reflect.Struct:
		for i := range v.NumField() {
			setNil(v.Field(i))
		}
	}
}
