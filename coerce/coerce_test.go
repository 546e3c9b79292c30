package coerce_test

import (
	"fmt"
	"reflect"
	"slices"
	"strings"
	"testing"

	"rhizome/api"
	"rhizome/coerce"
	"rhizome/gen"
	"rhizome/jsons"
	"rhizome/sdl"
	"rhizome/syntax"
)

// copied is a value in memory of its own, with room behind each list; a list that is not there is empty.
func copied[T any](x T) T {
	var y T
	copyInto(reflect.ValueOf(&y).Elem(), reflect.ValueOf(x))
	return y
}

func copyInto(to, from reflect.Value) {
	switch from.Kind() {
	case reflect.Slice:
		to.Set(reflect.MakeSlice(from.Type(), from.Len(), from.Len()+2))
		for i := range from.Len() {
			copyInto(to.Index(i), from.Index(i))
		}
	case reflect.Struct:
		for i := range from.NumField() {
			copyInto(to.Field(i), from.Field(i))
		}
	default:
		to.Set(from)
	}
}

// blank: is nothing in the room behind each list?
func blank(v reflect.Value) bool {
	switch v.Kind() {
	case reflect.Slice:
		all := v.Slice(0, v.Cap())
		for i := range all.Len() {
			if i < v.Len() && !blank(all.Index(i)) || i >= v.Len() && !all.Index(i).IsZero() {
				return false
			}
		}
	case reflect.Struct:
		for i := range v.NumField() {
			if !blank(v.Field(i)) {
				return false
			}
		}
	}
	return true
}

// untouched is a copy of a value, and says whether that copy is as it was.
func untouched[T any](t *testing.T, x T) (T, func()) {
	y := copied(x)
	return y, func() {
		t.Helper()
		if !reflect.DeepEqual(y, copied(x)) || !blank(reflect.ValueOf(&y).Elem()) {
			t.Errorf("%s: was changed to %s", short(x), short(y))
		}
	}
}

// short is how a test writes a value that may be long.
func short(x any) string { return fmt.Sprintf("%.2000s", fmt.Sprintf("%+v", x)) }

// types are the definitions of a schema's text.
func types(t *testing.T, text string) []api.Def {
	t.Helper()
	s, at, e := sdl.Parse(text)
	if e != api.OK {
		t.Fatalf("%q: %d at %d", text, e, at)
	}
	defs, e := gen.Types(s)
	if e != api.OK {
		t.Fatalf("%q: %d", text, e)
	}
	return defs
}

// read is the tree of a text.
func read(t *testing.T, text string) api.Doc {
	t.Helper()
	d, at, e := syntax.Parse(text)
	if e != api.OK {
		t.Fatalf("%q: %d at %d", text, e, at)
	}
	return d
}

// value is the one of a text.
func value(t *testing.T, text string) api.Value {
	t.Helper()
	return read(t, "{a(b:"+text+")}").Ops[0].Sels[0].Args[0].Value
}

// args are those of a text.
func args(t *testing.T, text string) []api.Arg {
	t.Helper()
	return read(t, "{a("+text+")}").Ops[0].Sels[0].Args
}

// vars are those of a text.
func vars(t *testing.T, text string) []api.Var {
	t.Helper()
	return read(t, "query("+text+"){a}").Ops[0].Vars
}

// ref is the type of a text.
func ref(t *testing.T, text string) api.Ref {
	t.Helper()
	return vars(t, "$a:"+text)[0].Type
}

// json is the value of a JSON text.
func json(t *testing.T, text string) api.Json {
	t.Helper()
	j, e := jsons.Parse(text)
	if e != api.OK {
		t.Fatalf("%q: %d", text, e)
	}
	return j
}

// same: is one value the other one? A list that is not there is as an empty one.
func same(a, b api.Json) bool {
	return a.Kind == b.Kind && a.Int == b.Int && a.Bits == b.Bits && a.Text == b.Text && slices.Equal(a.Keys, b.Keys) && slices.EqualFunc(a.List, b.List, same)
}

// marked writes over all lists of a value, and the room behind them, in the order in which they stand; each element is written a number of its own.
func marked(v *api.Json, n *int) {
	l, keys := v.List[:cap(v.List)], v.Keys[:cap(v.Keys)]
	for i := range l {
		marked(&l[i], n)
		*n++
		l[i].Int = *n
	}
	for i := range keys {
		*n++
		keys[i] = fmt.Sprint(*n)
	}
}

// alone: has each element kept its number?
func alone(v *api.Json, n *int) bool {
	l, keys := v.List[:cap(v.List)], v.Keys[:cap(v.Keys)]
	for i := range l {
		if !alone(&l[i], n) {
			return false
		}
		if *n++; l[i].Int != *n {
			return false
		}
	}
	for i := range keys {
		if *n++; keys[i] != fmt.Sprint(*n) {
			return false
		}
	}
	return true
}

// call is what a call tells; none of them tells all.
type call struct {
	j    api.Json
	says bool
	e    api.Errno
}

// holds asks twice, holds both answers against what is wanted, and writes over the first ahead of looking at the second; what is all that was handed in.
func holds(t *testing.T, ask func() call, want call, what ...any) {
	t.Helper()
	first, second := ask(), ask()
	for _, x := range []call{first, second} {
		if x.e != want.e || x.says != want.says || !same(x.j, want.j) {
			t.Errorf("%s:\n%s, not\n%s", short(what), short(x), short(want))
		}
		if !blank(reflect.ValueOf(x.j)) {
			t.Errorf("%s: something stands behind a list", short(what))
		}
	}
	n, m := 0, 0
	marked(&first.j, &n)
	if !alone(&first.j, &m) {
		t.Errorf("%s: two lists share memory", short(what))
	}
	if third := ask(); !same(second.j, want.j) || !same(third.j, want.j) {
		t.Errorf("%s: %s, then %s", short(what), short(second), short(third))
	}
}

// answer is what a call tells, of what the model tells.
func answer(j *api.Json, says bool, e api.Errno) call {
	switch {
	case j != nil:
		return call{*j, says, api.OK}
	case says:
		return call{e: e}
	}
	return call{}
}

// inputs holds Input against the model, and what came of it against what comes of that, and tells it.
func inputs(t *testing.T, j api.Json, at api.Ref, defs []api.Def) (api.Json, api.Errno) {
	t.Helper()
	j, input := untouched(t, j)
	defs, types := untouched(t, defs)
	want := answer(modelInput(j, at, defs), true, api.ErrCoerceVar)
	holds(t, func() call {
		v, e := coerce.Input(j, at, defs)
		return call{v, e == api.OK, e}
	}, want, "Input", j, at, defs)
	input()
	types()
	v, e := coerce.Input(j, at, defs)
	if e == api.OK {
		stays(t, v, at, defs)
	}
	return v, e
}

// stays: does a value come of Input as it is? (P16.5)
func stays(t *testing.T, v api.Json, at api.Ref, defs []api.Def) {
	t.Helper()
	if again, e := coerce.Input(v, at, defs); e != api.OK || !same(v, again) {
		t.Errorf("%s comes of Input by %v of %s as %s, %d", short(v), at, short(defs), short(again), e)
	}
}

// told holds Value against the model, and tells it.
func told(t *testing.T, v api.Value, at api.Ref, defs []api.Def, known api.Json) (api.Json, bool, api.Errno) {
	t.Helper()
	v, value := untouched(t, v)
	defs, types := untouched(t, defs)
	known, vars := untouched(t, known)
	j, says := modelValue(v, at, defs, known)
	holds(t, func() call {
		j, says, e := coerce.Value(v, at, defs, known)
		return call{j, says, e}
	}, answer(j, says, api.ErrCoerceValue), "Value", v, at, known, defs)
	value()
	types()
	vars()
	x, says, e := coerce.Value(v, at, defs, known)
	if e == api.OK && plain(v) {
		stays(t, x, at, defs)
	}
	return x, says, e
}

// plain: has a value no variable in it, and is what it says a text?
func plain(v api.Value) bool {
	return v.Kind != api.ValVar && strings.ToValidUTF8(v.Text, "") == v.Text && !slices.ContainsFunc(v.List, func(x api.Value) bool { return !plain(x) })
}

// argued holds Args against the model, and tells it.
func argued(t *testing.T, l []api.Arg, ins []api.In, defs []api.Def, known api.Json) (api.Json, api.Errno) {
	t.Helper()
	l, args := untouched(t, l)
	ins, fields := untouched(t, ins)
	defs, types := untouched(t, defs)
	known, vars := untouched(t, known)
	holds(t, func() call {
		j, e := coerce.Args(l, ins, defs, known)
		return call{j, e == api.OK, e}
	}, answer(modelArgs(l, ins, defs, known), true, api.ErrCoerceValue), "Args", l, ins, known, defs)
	args()
	fields()
	types()
	vars()
	j, e := coerce.Args(l, ins, defs, known)
	for i, name := range j.Keys {
		in, _ := modelIn(ins, name)
		if at := slices.IndexFunc(l, func(x api.Arg) bool { return x.Name == name }); plain(l[at].Value) {
			stays(t, j.List[i], in.Type, defs)
		}
	}
	return j, e
}

// given holds Vars against the model, and tells it.
func given(t *testing.T, l []api.Var, known api.Json, defs []api.Def) (api.Json, api.Errno) {
	t.Helper()
	l, vars := untouched(t, l)
	defs, types := untouched(t, defs)
	known, values := untouched(t, known)
	j, e := modelVars(l, known, defs)
	holds(t, func() call {
		j, e := coerce.Vars(l, known, defs)
		return call{j, e == api.OK, e}
	}, answer(j, true, e), "Vars", l, known, defs)
	vars()
	types()
	values()
	return coerce.Vars(l, known, defs)
}

// becomes holds what a call tells against a JSON text; an empty one: it tells the error.
func becomes(t *testing.T, what string, j api.Json, e api.Errno, want string, wrong api.Errno) {
	t.Helper()
	text, bad := jsons.Print(j)
	if e != api.OK && want == "" && e == wrong && same(j, api.Json{}) {
		return
	}
	if e != api.OK || bad != api.OK || text != want {
		t.Errorf("%s: %s, %d (printed: %d), not %s", what, text, e, bad, want)
	}
}

const wide = "enum E{A B} type T{a:Int! b:[T!]! e:E f:Float s:String o:Boolean! u:U} type U{c:Float e:E! us:[U!]!}"

// The chapter's examples.
func TestExamples(t *testing.T) {
	defs := types(t, wide)
	for _, c := range [][3]string{{"1", "Float", "1e0"}, {"1", "[ID!]", "[\"1\"]"}, {"1", "Boolean", ""}} {
		j, e := inputs(t, json(t, c[0]), ref(t, c[1]), defs)
		becomes(t, c[0]+" by "+c[1], j, e, c[2], api.ErrCoerceVar)
	}
	for _, c := range [][2]string{{"[Int]", "[1,null]"}, {"[Int!]", ""}} {
		j, _, e := told(t, value(t, "[1,$x]"), ref(t, c[0]), defs, api.Json{})
		becomes(t, c[0], j, e, c[1], api.ErrCoerceValue)
	}
	l := vars(t, "$a:Int!=1,$b:Int")
	for _, c := range [][2]string{{"null", "{\"a\":1}"}, {"{}", "{\"a\":1}"}, {"{\"a\":null}", ""}, {"{\"b\":null}", "{\"a\":1,\"b\":null}"}} {
		j, e := given(t, l, json(t, c[0]), defs)
		becomes(t, c[0], j, e, c[1], api.ErrCoerceVar)
	}
}

func TestErrors(t *testing.T) {
	if api.ErrCoerceVar != 160 || api.ErrCoerceValue != 161 {
		t.Errorf("%d, %d", api.ErrCoerceVar, api.ErrCoerceValue)
	}
}

// The helpers of these tests: what shares memory is seen.
func TestMarked(t *testing.T) {
	l := []api.Json{{}, {}}
	keys := []string{"a"}
	for _, c := range []struct {
		j     api.Json
		alone bool
	}{
		{api.Json{}, true}, {api.Json{List: l, Keys: keys}, true}, {api.Json{List: []api.Json{{List: l}, {List: []api.Json{{}, {}}}}}, true},
		{api.Json{List: []api.Json{{List: l}, {List: l}}}, false}, {api.Json{List: []api.Json{{List: l[:1]}, {List: l[1:]}}}, false}, {api.Json{List: []api.Json{{List: l[:0]}, {List: l[1:]}}}, false},
		{api.Json{List: []api.Json{{Keys: keys}, {Keys: keys}}}, false}, {api.Json{Keys: keys, List: []api.Json{{Keys: keys[:0]}}}, false}, {api.Json{List: []api.Json{{List: l[:1:1]}, {List: l[1:]}}}, true},
	} {
		n, m := 0, 0
		marked(&c.j, &n)
		if alone(&c.j, &m) != c.alone {
			t.Errorf("%v", c)
		}
	}
}
