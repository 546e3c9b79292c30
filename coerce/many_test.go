package coerce_test

import (
	"math"
	"reflect"
	"slices"
	"strconv"
	"strings"
	"testing"

	"rhizome/api"
	"rhizome/coerce"
	"rhizome/gen"
	"rhizome/samples"
)

// rows are all lists of at most n of the pieces.
func rows[T any](n int, pieces []T) [][]T {
	all := [][]T{nil}
	for ahead := all; n > 0; n-- {
		var longer [][]T
		for _, l := range ahead {
			for _, x := range pieces {
				longer = append(longer, append(slices.Clip(l), x))
			}
		}
		all, ahead = append(all, longer...), longer
	}
	return all
}

// wraps are all of at most n signs.
func wraps(n int, signs ...string) []string {
	var l []string
	for _, row := range rows(n, signs) {
		l = append(l, strings.Join(row, ""))
	}
	return l
}

// odd are definitions of all kinds, with an input that holds itself.
func odd() []api.Def {
	var l []api.Def
	for _, name := range []string{"ID", "Int", "Float", "String", "Boolean"} {
		l = append(l, api.Def{Name: name})
	}
	l = append(l, api.Def{Name: "E", Kind: api.DefEnum, Words: []string{"A", "1"}}, api.Def{Name: "O", Kind: api.DefObject}, api.Def{Name: "N", Kind: -1}, api.Def{Name: "N", Kind: api.DefInput}, api.Def{Name: "S"}, api.Def{Name: "K", Kind: api.DefKinds})
	return append(l, api.Def{Name: "I", Kind: api.DefInput, Ins: []api.In{
		{Name: "i", Type: api.Ref{Name: "I"}}, {Name: "a", Type: api.Ref{Name: "Int", Wraps: "!"}}, {Name: "l", Type: api.Ref{Name: "I", Wraps: "!["}}, {Name: "a", Type: api.Ref{Name: "Float"}}, {Name: "e", Type: api.Ref{Name: "E"}}}})
}

// oddNames are those of definitions, and one that none has.
func oddNames() []string { return strings.Fields("Int Float String Boolean ID E O N S K I Nope") }

// jsonPieces are values of all kinds, and lists and objects of one.
func jsonPieces() []api.Json {
	var l []api.Json
	for kind := -1; kind <= api.JsonKinds; kind++ {
		l = append(l, api.Json{Kind: kind, Int: 1, Text: "1"})
	}
	l = append(l, api.Json{Kind: api.JsonInt, Int: math.MaxInt32 + 1}, api.Json{Kind: api.JsonFloat, Bits: 0x7ff << 52}, api.Json{Kind: api.JsonText, Text: "\xff"})
	for _, x := range slices.Clone(l) {
		l = append(l, api.Json{Kind: api.JsonList, List: []api.Json{x}}, api.Json{Kind: api.JsonObject, Keys: []string{"a"}, List: []api.Json{x}})
	}
	return l
}

// nestedJson are the pieces, and lists and objects of one and of two of them.
func nestedJson() []api.Json {
	l := jsonPieces()
	for _, x := range jsonPieces() {
		l = append(l, api.Json{Kind: api.JsonList, List: []api.Json{x}}, api.Json{Kind: api.JsonObject, Keys: []string{"i"}, List: []api.Json{x}}, api.Json{Kind: api.JsonObject, Keys: []string{"a", "y"}, List: []api.Json{x, x}}, api.Json{Kind: api.JsonObject, Keys: []string{"a", "i"}, List: []api.Json{x}})
		for _, y := range jsonPieces() {
			l = append(l, api.Json{Kind: api.JsonList, List: []api.Json{x, y}}, api.Json{Kind: api.JsonObject, Keys: []string{"a", "i"}, List: []api.Json{x, y}}, api.Json{Kind: api.JsonObject, Keys: []string{"l", "a"}, List: []api.Json{x, y}}, api.Json{Kind: api.JsonObject, Keys: []string{"a", "a"}, List: []api.Json{x, y}})
		}
	}
	return l
}

// P16.1, P16.5: all small values by all small types.
func TestInputShort(t *testing.T) {
	defs := odd()
	all := nestedJson()
	fit := 0
	for _, name := range oddNames() {
		for _, w := range wraps(3, "!", "[", "?") {
			if name != "I" && name != "Int" && len(w) == 3 {
				continue
			}
			at := api.Ref{Name: name, Wraps: w}
			for _, j := range all {
				want := answer(modelInput(j, at, defs), true, api.ErrCoerceVar)
				v, e := coerce.Input(j, at, defs)
				if e != want.e || !same(v, want.j) {
					t.Fatalf("%+v by %v: %+v, %d, not %+v", j, at, v, e, want)
				}
				if e == api.OK {
					stays(t, v, at, defs)
					fit++
				}
			}
			if t.Failed() {
				return
			}
		}
	}
	if fit < 3000 {
		t.Errorf("only %d fit", fit)
	}
}

// pieces are values of all kinds, and lists and objects of one.
func pieces() []api.Value {
	var l []api.Value
	for kind := -1; kind <= api.ValKinds; kind++ {
		l = append(l, api.Value{Kind: kind, Text: "1"})
	}
	l = append(l, api.Value{Kind: api.ValInt, Text: "1.5"}, api.Value{Kind: api.ValFloat, Text: "1e999"}, api.Value{Kind: api.ValEnum, Text: "A"}, api.Value{Kind: api.ValText, Text: "\xff"}, api.Value{Kind: api.ValVar, Text: "n"}, api.Value{Kind: api.ValVar, Text: "x"})
	for _, x := range slices.Clone(l) {
		l = append(l, api.Value{Kind: api.ValList, List: []api.Value{x}}, api.Value{Kind: api.ValObject, Names: []string{"a"}, List: []api.Value{x}})
	}
	return l
}

// nested are the pieces, and lists and objects of one and of two of them.
func nested() []api.Value {
	l := pieces()
	for _, x := range pieces() {
		l = append(l, api.Value{Kind: api.ValList, List: []api.Value{x}}, api.Value{Kind: api.ValObject, Names: []string{"i"}, List: []api.Value{x}}, api.Value{Kind: api.ValObject, Names: []string{"a", "y"}, List: []api.Value{x, x}}, api.Value{Kind: api.ValObject, Names: []string{"a", "i"}, List: []api.Value{x}})
		for _, y := range pieces() {
			l = append(l, api.Value{Kind: api.ValList, List: []api.Value{x, y}}, api.Value{Kind: api.ValObject, Names: []string{"a", "i"}, List: []api.Value{x, y}}, api.Value{Kind: api.ValObject, Names: []string{"l", "a"}, List: []api.Value{x, y}}, api.Value{Kind: api.ValObject, Names: []string{"a", "a"}, List: []api.Value{x, y}})
		}
	}
	return l
}

// known are members by which the variable 1 is there, and n is null.
func known() api.Json {
	return api.Json{Kind: api.JsonObject, Keys: []string{"1", "n", "1"}, List: []api.Json{{Kind: api.JsonList, List: []api.Json{{Kind: api.JsonTrue}}}, {}, {}}}
}

// P16.2, P16.5: all small values by all small types.
func TestValueShort(t *testing.T) {
	defs := odd()
	all := nested()
	members := known()
	fit, silent := 0, 0
	for _, name := range oddNames() {
		for _, w := range wraps(3, "!", "[", "?") {
			if name != "I" && name != "Int" && len(w) > 1 || len(w) == 3 && strings.Contains(w, "?") {
				continue
			}
			at := api.Ref{Name: name, Wraps: w}
			for _, v := range all {
				j, says := modelValue(v, at, defs, members)
				want := answer(j, says, api.ErrCoerceValue)
				x, is, e := coerce.Value(v, at, defs, members)
				if e != want.e || is != want.says || !same(x, want.j) {
					t.Fatalf("%+v by %v: %+v, %v, %d, not %+v", v, at, x, is, e, want)
				}
				if is && plain(v) {
					stays(t, x, at, defs)
					fit++
				}
				if !is && e == api.OK {
					silent++
				}
			}
			if t.Failed() {
				return
			}
		}
	}
	if fit < 1500 || silent < 50 {
		t.Errorf("only %d fit, %d say nothing", fit, silent)
	}
}

// P16.3: all rows of arguments, by all rows of Ins.
func TestArgsShort(t *testing.T) {
	defs := odd()
	members := known()
	var l []api.Arg
	var ins []api.In
	for _, name := range []string{"a", "b"} {
		for _, v := range []api.Value{{}, {Kind: api.ValInt, Text: "1"}, {Kind: api.ValTrue}, {Kind: api.ValVar, Text: "1"}, {Kind: api.ValVar, Text: "n"}, {Kind: api.ValVar, Text: "x"}} {
			l = append(l, api.Arg{Name: name, Value: v})
		}
		for _, at := range []api.Ref{{Name: "Int"}, {Name: "Int", Wraps: "!"}, {Name: "Boolean", Wraps: "!["}} {
			ins = append(ins, api.In{Name: name, Type: at})
		}
	}
	for _, fields := range rows(3, ins) {
		for _, args := range rows(3, l) {
			want := answer(modelArgs(args, fields, defs, members), true, api.ErrCoerceValue)
			if j, e := coerce.Args(args, fields, defs, members); e != want.e || !same(j, want.j) {
				t.Fatalf("%+v by %v: %+v, %d, not %+v", args, fields, j, e, want)
			}
		}
	}
}

// P16.4: all rows of variables, with all kinds of members.
func TestVarsShort(t *testing.T) {
	defs := odd()
	var l []api.Var
	for _, name := range []string{"a", "b"} {
		for _, w := range []string{"", "!"} {
			at := api.Ref{Name: "Int", Wraps: w}
			l = append(l, api.Var{Name: name, Type: at}, api.Var{Name: name, Type: at, Has: true}, api.Var{Name: name, Type: at, Has: true, Default: api.Value{Kind: api.ValInt, Text: "1"}}, api.Var{Name: name, Type: at, Has: true, Default: api.Value{Kind: api.ValTrue}}, api.Var{Name: name, Type: at, Has: true, Default: api.Value{Kind: api.ValVar, Text: "a"}})
		}
	}
	values := []api.Json{{}, {Kind: api.JsonInt, Int: 7}, {Kind: api.JsonTrue}}
	all := []api.Json{{}, {Kind: api.JsonTrue}, {Kind: api.JsonObject, Keys: []string{"b", "a"}, List: []api.Json{{Kind: api.JsonInt, Int: 9}}}}
	for _, keys := range rows(2, []string{"a", "b", "c"}) {
		for _, row := range rows(2, values) {
			if len(row) == len(keys) {
				all = append(all, api.Json{Kind: api.JsonObject, Keys: keys, List: row})
			}
		}
	}
	for _, row := range rows(3, l) {
		for _, x := range all {
			j, e := modelVars(row, x, defs)
			want := answer(j, true, e)
			if v, e := coerce.Vars(row, x, defs); e != want.e || !same(v, want.j) {
				t.Fatalf("%+v with %+v: %+v, %d, not %+v", row, x, v, e, want)
			}
		}
	}
}

// madeTypes are the definitions of a schema that may be.
func madeTypes(t *testing.T, m *samples.Trees) []api.Def {
	t.Helper()
	defs, e := gen.Types(m.Allowed())
	if e != api.OK {
		t.Fatal(e)
	}
	return defs
}

// made are definitions, a type, and a value that fits it.
func made(t *testing.T, x uint64, tokens int) ([]api.Def, api.Ref, api.Value) {
	t.Helper()
	m := samples.NewTrees(x, tokens)
	defs := madeTypes(t, m)
	for {
		if d := defs[m.Pick(len(defs))]; d.Kind != api.DefObject {
			at := api.Ref{Name: d.Name, Wraps: []string{"", "!", "[", "![!", "[[", "!["}[m.Pick(6)]}
			return defs, at, m.Fitting(defs, at)
		}
	}
}

// changer makes changes in trees: at each place that it is led over, if its turn has come.
type changer struct {
	m    *samples.Trees
	turn int // how many places are passed by
}

// all leads over all places of a value.
func (c *changer) all(v reflect.Value) {
	switch v.Kind() {
	case reflect.Slice:
		for i := range v.Len() {
			c.all(v.Index(i))
		}
		c.place(func() { c.list(v) })
	case reflect.Struct:
		for i := range v.NumField() {
			c.all(v.Field(i))
		}
		switch v.Type() {
		case reflect.TypeFor[api.Value]():
			c.place(func() { v.Set(reflect.ValueOf(c.value())) })
		case reflect.TypeFor[api.Json]():
			c.place(func() { v.Set(reflect.ValueOf(c.json())) })
		}
	case reflect.String:
		c.place(func() { v.SetString(c.word()) })
	case reflect.Bool:
		c.place(func() { v.SetBool(!v.Bool()) })
	case reflect.Int:
		c.place(func() { v.SetInt(int64(c.m.Pick(12) - 1)) })
	case reflect.Uint64:
		c.place(func() { v.SetUint(uint64(c.m.Pick(5)) << 61) })
	}
}

func (c *changer) place(change func()) {
	if c.turn == 0 {
		change()
	}
	c.turn--
}

func (c *changer) word() string {
	l := strings.Fields("T U Query Int Boolean ID E a b id and not eq in first input v0 v1 ! [ ![! 1 -1 1.5 1e999 2147483648 A x ?")
	if n := c.m.Pick(len(l) + 2); n < len(l) {
		return l[n]
	} else if n == len(l) {
		return "\xff"
	}
	return ""
}

func (c *changer) value() api.Value {
	if c.m.Pick(2) == 0 {
		return api.Value{Kind: api.ValVar, Text: "v" + strconv.Itoa(c.m.Pick(4))}
	}
	return c.m.Value(2, false)
}

func (c *changer) json() api.Json {
	j := api.Json{Kind: c.m.Pick(api.JsonKinds), Int: c.m.Pick(100), Text: c.word()}
	for range c.m.Pick(3) {
		j.List, j.Keys = append(j.List, api.Json{Kind: c.m.Pick(api.JsonText), Int: 1 << 31}), append(j.Keys, c.word())
	}
	return j
}

// list takes one away, or puts one there again, or puts one there that is empty, or has two change places.
func (c *changer) list(v reflect.Value) {
	n := v.Len()
	switch at := c.m.Pick(n + 1); {
	case at == n:
		v.Set(reflect.Append(v, reflect.Zero(v.Type().Elem())))
	case c.m.Pick(3) == 0:
		v.Set(reflect.AppendSlice(v.Slice(0, at), v.Slice(at+1, n)))
	case c.m.Pick(2) == 0:
		v.Set(reflect.Append(v, v.Index(at)))
	default:
		reflect.Swapper(v.Interface())(at, c.m.Pick(n))
	}
}

// change makes so many changes somewhere in a value.
func change[T any](m *samples.Trees, x T, many int) T {
	x = copied(x)
	v := reflect.ValueOf(&x).Elem()
	for range many {
		count := &changer{m: m, turn: -1}
		count.all(v)
		c := &changer{m: m, turn: m.Pick(-1 - count.turn)}
		c.all(v)
	}
	return copied(x)
}

// members are four, of a type or not, by the names v0 to v3 or fewer.
func members(m *samples.Trees, defs []api.Def, at api.Ref) api.Json {
	o := api.Json{Kind: api.JsonObject}
	for i := range 4 {
		j, _, e := coerce.Value(m.Fitting(defs, at), at, defs, api.Json{})
		if e == api.OK && m.Pick(3) > 0 {
			o.Keys, o.List = append(o.Keys, "v"+strconv.Itoa(i)), append(o.List, j)
		}
	}
	return o
}

// P16.1, P16.2: made values that fit, and such with changes, in the definitions, too.
func TestMade(t *testing.T) {
	fit, not := 0, 0
	for i, x := range samples.Spread(3000) {
		defs, at, v := made(t, x, 100+i%300)
		m := samples.NewTrees(^x, 100)
		if i%4 > 0 {
			v = change(m, v, i%4)
		}
		known := members(m, defs, at)
		if i%5 == 0 {
			defs = change(m, defs, 1+i%3)
		}
		if i%7 == 0 {
			known = change(m, known, 1)
		}
		j, says, e := told(t, v, at, defs, known)
		if i%4 == 0 && i%5 > 0 && e != api.OK {
			t.Errorf("%s by %v: %d", short(v), at, e)
		}
		if says {
			_, e = inputs(t, j, at, defs)
			if e == api.OK {
				fit++
			}
			if _, e = inputs(t, change(m, j, 1+i%3), at, defs); e != api.OK {
				not++
			}
		} else {
			not++
		}
		if t.Failed() {
			return
		}
	}
	if fit < 1000 || not < 1000 {
		t.Errorf("%d fit, %d don't", fit, not)
	}
}

// P16.3: arguments of made types, and such with changes.
func TestArgsMade(t *testing.T) {
	fit, not := 0, 0
	for i, x := range samples.Spread(1500) {
		defs, at, _ := made(t, x, 100+i%300)
		m := samples.NewTrees(^x, 300)
		var l []api.Arg
		var ins []api.In
		for _, name := range []string{"a", "b", "c"} {
			of := api.Ref{Name: at.Name, Wraps: []string{"", "!", "![", at.Wraps}[m.Pick(4)]}
			l = append(l, api.Arg{Name: name, Value: m.Fitting(defs, of)})
			ins = slices.Insert(ins, m.Pick(len(ins)+1), api.In{Name: name, Type: of})
		}
		if _, e := argued(t, l, ins, defs, api.Json{}); e != api.OK {
			t.Errorf("%s by %v: %d", short(l), ins, e)
		}
		if _, e := argued(t, change(m, l, i%4), change(m, ins, i%3), defs, members(m, defs, at)); e == api.OK {
			fit++
		} else {
			not++
		}
		if t.Failed() {
			return
		}
	}
	if fit < 250 || not < 250 {
		t.Errorf("%d fit, %d don't", fit, not)
	}
}

// P16.4: variables of made types, and such with changes, with members of these types.
func TestVarsMade(t *testing.T) {
	seen := map[api.Errno]int{}
	for i, x := range samples.Spread(1500) {
		defs, at, _ := made(t, x, 100+i%300)
		m := samples.NewTrees(^x, 300)
		var l []api.Var
		for n := range 4 {
			l = append(l, api.Var{Name: "v" + strconv.Itoa(n), Type: at, Has: m.Pick(2) == 0, Default: m.Fitting(defs, at)})
		}
		known := members(m, defs, at)
		if _, e := given(t, l, known, defs); e == api.ErrCoerceValue {
			t.Errorf("%s: %d", short(l), e)
		}
		_, e := given(t, change(m, l, i%4), change(m, known, i%3), defs)
		seen[e]++
		if t.Failed() {
			return
		}
	}
	if seen[api.OK] < 200 || seen[api.ErrCoerceVar] < 200 || seen[api.ErrCoerceValue] < 50 {
		t.Errorf("%v", seen)
	}
}

// emptied is a value whose empty lists are all nil.
func emptied[T any](x T) T {
	x = copied(x)
	setNil(reflect.ValueOf(&x).Elem())
	return x
}

func setNil(v reflect.Value) {
	switch v.Kind() {
	case reflect.Slice:
		for i := range v.Len() {
			setNil(v.Index(i))
		}
		if v.Len() == 0 {
			v.SetZero()
		}
	case reflect.Struct:
		for i := range v.NumField() {
			setNil(v.Field(i))
		}
	}
}

// R3: a list that is not there is as an empty one.
func TestEmpty(t *testing.T) {
	for i, x := range samples.Spread(500) {
		defs, at, v := made(t, x, 100+i%300)
		m := samples.NewTrees(^x, 100)
		known := members(m, defs, at)
		v, defs = change(m, v, i%3), change(m, defs, i%2)
		j, says, e := told(t, v, at, defs, known)
		k, is, f := told(t, emptied(v), at, emptied(defs), emptied(known))
		if !same(j, k) || says != is || e != f {
			t.Fatalf("%s: %v, %v, %d, not %v, %v, %d", short(v), k, is, f, j, says, e)
		}
		inputs(t, emptied(j), at, emptied(defs))
		argued(t, []api.Arg{{Name: "a", Value: emptied(v)}}, []api.In{{Name: "a", Type: at}}, emptied(defs), emptied(known))
		given(t, []api.Var{{Name: "v0", Type: at, Has: true, Default: emptied(v)}}, emptied(known), emptied(defs))
	}
	for _, defs := range [][]api.Def{nil, {}} {
		argued(t, nil, nil, defs, api.Json{})
		argued(t, []api.Arg{}, []api.In{}, defs, api.Json{Keys: []string{}, List: []api.Json{}})
		given(t, nil, api.Json{}, defs)
		given(t, []api.Var{}, api.Json{Kind: api.JsonObject, Keys: []string{}}, defs)
	}
}
