package jsons_test

import (
	"math"
	"slices"
	"strings"
	"testing"

	"rhizome/api"
	"rhizome/jsons"
	"rhizome/samples"
)

const infinity = 0x7ff << 52

func whole(n int) api.Json { return api.Json{Kind: api.JsonInt, Int: n} }

func number(f float64) api.Json {
	return api.Json{Kind: api.JsonFloat, Bits: math.Float64bits(f)}
}

func text(s string) api.Json { return api.Json{Kind: api.JsonText, Text: s} }

func list(l ...api.Json) api.Json { return api.Json{Kind: api.JsonList, List: l} }

// object has a key for each letter of a text.
func object(letters string, l ...api.Json) api.Json {
	return api.Json{Kind: api.JsonObject, Keys: strings.Split(letters, ""), List: l}
}

// nested is v within n lists and objects, by turns.
func nested(v api.Json, n int) api.Json {
	for i := range n {
		if i%2 == 0 {
			v = list(v)
		} else {
			v = object("k", v)
		}
	}
	return v
}

// same tells whether two values are one; a nil list and an empty one are the same.
func same(a, b api.Json) bool {
	return a.Kind == b.Kind && a.Int == b.Int && a.Bits == b.Bits && a.Text == b.Text && slices.Equal(a.Keys, b.Keys) && slices.EqualFunc(a.List, b.List, same)
}

// copied is v anew.
func copied(v api.Json) api.Json {
	var l []api.Json
	for _, x := range v.List {
		l = append(l, copied(x))
	}
	v.List, v.Keys = l, append([]string(nil), v.Keys...)
	return v
}

// wreck writes over the lists of v, over those in it, and over the room behind them.
func wreck(v api.Json) {
	l, keys := v.List[:cap(v.List)], v.Keys[:cap(v.Keys)]
	for i, x := range l {
		wreck(x)
		l[i] = api.Json{Kind: -77, Text: "wrecked"}
	}
	for i := range keys {
		keys[i] = "wrecked"
	}
}

// plainValues are values that may be and hold no others, at the edges of each kind.
func plainValues() []api.Json {
	l := []api.Json{{}, {Kind: api.JsonFalse}, {Kind: api.JsonTrue}, list(), object("")}
	for _, n := range []int{-api.MaxInt, 1 - api.MaxInt, -1000, -10, -9, -1, 0, 1, 9, 10, 123, 1 << 31, api.MaxInt - 1, api.MaxInt} {
		l = append(l, whole(n))
	}
	for _, f := range []float64{0, math.Copysign(0, -1), 1, -1, 0.1, 15, -1.5, 1e21, 1 << 53, 1<<53 + 2, -(1 << 53), 1 << 63, math.MaxFloat64, -math.MaxFloat64, math.SmallestNonzeroFloat64, 0x1p-1022, 0x1p-1022 - 0x1p-1074, math.Pi} {
		l = append(l, number(f))
	}
	for _, s := range []string{"", "a", "\x00", "\x1f", " ", "\x7f", "\"", "\\", "/", "\\\"", "\b\f\n\r\t", "é", "€", "😀", "\ufffd", "\ufeff", "\u2028", "\ud7ff\ue000", "\U0010ffff", "\\u0041", "null", "a\x00b\x10c"} {
		l = append(l, text(s))
	}
	return l
}

// made is a value that may be, of at most deep lists and objects within one another, chosen by what next tells.
func made(next func(int) int, plain []api.Json, deep int) api.Json {
	if deep == 0 || next(4) == 0 {
		return plain[next(len(plain))]
	}
	var l []api.Json
	for range next(5) {
		l = append(l, made(next, plain, deep-1))
	}
	if next(2) == 0 {
		return list(l...)
	}
	return object(string([]rune("é\"b\x01")[:len(l)]), l...)
}

// someValues are values that may be.
func someValues() []api.Json {
	plain := plainValues()
	l := append([]api.Json{list(plain...), object("é/", list(list()), object("é", object("")))}, plain...)
	for i, v := range plain {
		x := plain[i*23%len(plain)]
		l = append(l, list(v), list(v, x), list(x, list(v, x)), object("a", v), object("ba", v, x), object("cab", list(), x, object("b", v)))
		l = append(l, nested(v, 1+i%31), object("xy", nested(x, 30), nested(text("a"), 31)))
	}
	numbers := samples.Spread(4000)
	next := func(n int) int {
		x := numbers[0]
		numbers = numbers[1:]
		return int(x>>1) % n
	}
	for len(numbers) > 2000 {
		l = append(l, made(next, plain, 4))
	}
	return l
}

// P4.1

func TestCheckExamples(t *testing.T) {
	if e := jsons.Check(object("aa", api.Json{}, api.Json{})); e != api.ErrJsonTwice {
		t.Error("a key twice:", e)
	}
	if e := jsons.Check(api.Json{Kind: api.JsonInt, Text: "x"}); e != api.ErrJsonForm {
		t.Error("a number with a text:", e)
	}
}

func TestCheckWhatMayBe(t *testing.T) {
	for _, v := range someValues() {
		if e := jsons.Check(v); e != api.OK {
			t.Errorf("%v: %d", v, e)
		}
	}
	if e := jsons.Check(api.Json{List: []api.Json{}, Keys: []string{}}); e != api.OK {
		t.Error("a null with lists that are empty, not nil:", e)
	}
}

func TestCheckKinds(t *testing.T) {
	for _, kind := range []int{math.MinInt, -8, -1, api.JsonKinds, api.JsonKinds + 1, 256, 1 << 32, math.MaxInt} {
		for _, v := range []api.Json{{Kind: kind}, list(api.Json{Kind: kind}), nested(api.Json{Kind: kind}, 32), {Kind: kind, List: []api.Json{{}}}} {
			if e := jsons.Check(v); e != api.ErrJsonForm {
				t.Errorf("%v: %d", v, e)
			}
		}
	}
}

// Each kind may have its own fields alone; what they hold would be right of the kind that has them.
func TestCheckFields(t *testing.T) {
	own := []string{"", "", "", "i", "b", "t", "l", "lk"}
	for kind := range api.JsonKinds {
		for mask := range 32 {
			v := api.Json{Kind: kind}
			fits, has := true, ""
			for i, set := range []func(){
				func() { v.Int = 1 },
				func() { v.Bits = 1 },
				func() { v.Text = "x" },
				func() { v.List = []api.Json{{}} },
				func() { v.Keys = []string{"a"} },
			} {
				if field := "ibtlk"[i : i+1]; mask>>i&1 == 1 {
					set()
					has += field
					fits = fits && strings.Contains(own[kind], field)
				}
			}
			if kind == api.JsonObject {
				fits = fits && has != "l" && has != "k"
			}
			if e := jsons.Check(v); (e == api.OK) != fits || e != modelCheck(v) {
				t.Errorf("kind %d with %q: %d", kind, has, e)
			}
		}
	}
}

func TestCheckEdges(t *testing.T) {
	for _, x := range []struct {
		v    api.Json
		want api.Errno
	}{
		{whole(api.MaxInt), 0}, {whole(api.MaxInt + 1), 43}, {whole(-api.MaxInt), 0}, {whole(-api.MaxInt - 1), 43}, {whole(math.MinInt), 43}, {whole(math.MaxInt), 43},
		{api.Json{Kind: api.JsonFloat, Bits: infinity - 1}, 0}, {api.Json{Kind: api.JsonFloat, Bits: infinity}, 43}, {api.Json{Kind: api.JsonFloat, Bits: infinity + 1}, 43},
		{api.Json{Kind: api.JsonFloat, Bits: 1<<63 | infinity - 1}, 0}, {api.Json{Kind: api.JsonFloat, Bits: 1<<63 | infinity}, 43}, {number(math.NaN()), 43}, {api.Json{Kind: api.JsonFloat, Bits: math.MaxUint64}, 43}, {api.Json{Kind: api.JsonFloat, Bits: 1 << 63}, 0},
		{text("\xff"), 43}, {text("a\xc3"), 43}, {text("\xed\xa0\x80"), 43}, {text("\xc0\x80"), 43}, {text("\xf4\x90\x80\x80"), 43}, {text(strings.Repeat("a", 70000)), 0},
		{api.Json{Kind: api.JsonObject, Keys: []string{"a"}}, 43}, {api.Json{Kind: api.JsonObject, List: []api.Json{{}}}, 43}, {object("ab", api.Json{}), 43}, {object("a", api.Json{}, api.Json{}), 43}, {object("ab", api.Json{}, api.Json{}), 0},
		{object("\xff", api.Json{}), 43}, {object("ab\xc3", api.Json{}, api.Json{}, api.Json{}), 43},
		{object("aba", api.Json{}, api.Json{}, api.Json{}), 44}, {object("abb", api.Json{}, api.Json{}, api.Json{}), 44}, {api.Json{Kind: api.JsonObject, Keys: []string{"", ""}, List: make([]api.Json, 2)}, 44},
		{object("a", object("a", api.Json{})), 0}, {object("ab", object("cd", api.Json{}, api.Json{}), object("cc", api.Json{}, api.Json{})), 44},
	} {
		if e := jsons.Check(x.v); e != x.want || e != modelCheck(x.v) {
			t.Errorf("%.80v: %d, not %d", x.v, e, x.want)
		}
	}
}

func TestCheckDeep(t *testing.T) {
	for _, v := range plainValues() {
		want := api.OK
		if v.Kind >= api.JsonList {
			want = api.ErrJsonDeep
		}
		if e := jsons.Check(nested(v, 32)); e != want {
			t.Errorf("%v within 32: %d", v, e)
		}
		for _, n := range []int{33, 34, 1000} {
			if e := jsons.Check(nested(v, n)); e != api.ErrJsonDeep {
				t.Errorf("%v within %d: %d", v, n, e)
			}
		}
	}
	if e := jsons.Check(list(nested(api.Json{}, 31), nested(api.Json{}, 31))); e != api.OK {
		t.Error("lists beside one another are not within:", e)
	}
}

// Which of several things that are wrong decides.
func TestCheckFirst(t *testing.T) {
	null, bad, twice := api.Json{}, api.Json{Kind: -1}, object("aa", api.Json{}, api.Json{})
	deep := nested(null, 33)
	badObject := api.Json{Kind: api.JsonObject, Int: 1, Keys: []string{"a", "a"}, List: []api.Json{deep, null}}
	for i, x := range []struct {
		v    api.Json
		want api.Errno
	}{
		{nested(badObject, 32), 41}, {nested(badObject, 31), 43}, {badObject, 43},
		{api.Json{Kind: api.JsonList, Text: "x", List: []api.Json{deep}}, 43}, {api.Json{Kind: api.JsonNull, List: []api.Json{deep}}, 43},
		{api.Json{Kind: api.JsonObject, Keys: []string{"a", "a"}, List: []api.Json{deep}}, 43},
		{object("aa", deep, bad), 44}, {object("ab", deep, bad), 41}, {object("ab", bad, deep), 43}, {object("ab", twice, bad), 44}, {object("ab", bad, twice), 43},
		{object("aa\xff", null, null, null), 44}, {object("a\xffa", null, null, null), 43}, {object("\xff\xff", null, null), 43},
		{list(list(null, twice), bad), 44}, {list(list(null, bad), twice), 43}, {list(bad, twice), 43}, {list(nested(twice, 30), bad), 44}, {list(nested(twice, 31), bad), 41},
		{object("abb", bad, null, null), 44}, {object("ab\xff", twice, null, null), 43},
	} {
		if e := jsons.Check(x.v); e != x.want || e != modelCheck(x.v) {
			t.Errorf("value %d: %d, not %d", i, e, x.want)
		}
	}
}

// brokenValues are values with one thing, or two, that may not be.
func brokenValues() []api.Json {
	breaks := []func(*api.Json){
		func(v *api.Json) { v.Kind = -1 },
		func(v *api.Json) { v.Kind = 8 },
		func(v *api.Json) { v.Kind = (v.Kind + 1) % 8 },
		func(v *api.Json) { v.Int = 1 << 53 },
		func(v *api.Json) { v.Bits = infinity },
		func(v *api.Json) { v.Text += "\x80" },
		func(v *api.Json) { v.Keys = append(v.Keys, "é") },
		func(v *api.Json) { v.List = append(v.List, api.Json{}) },
		func(v *api.Json) { v.Keys, v.List = append(v.Keys, "é"), append(v.List, api.Json{}) },
		func(v *api.Json) { *v = nested(*v, 30) },
		func(v *api.Json) { *v = object("ab", list(*v), *v) },
		func(v *api.Json) { *v = object("aba", *v, *v, *v) },
	}
	var l []api.Json
	numbers := samples.Spread(1000)
	for i, v := range someValues() {
		v = copied(v)
		x := numbers[i%len(numbers)]
		for range 1 + x%2 {
			breaks[x>>1%uint64(len(breaks))](part(&v, &x))
		}
		l = append(l, v)
	}
	return l
}

// part is some value in v, or v, as x chooses.
func part(v *api.Json, x *uint64) *api.Json {
	for len(v.List) > 0 && *x%3 != 0 {
		*x /= 3
		v = &v.List[*x%uint64(len(v.List))]
	}
	*x /= 7
	return v
}

func TestCheckModel(t *testing.T) {
	seen := map[api.Errno]int{}
	for _, v := range brokenValues() {
		e := jsons.Check(v)
		if want := modelCheck(v); e != want {
			t.Errorf("%v: %d, not %d", v, e, want)
		}
		seen[e]++
	}
	for _, e := range []api.Errno{0, 41, 43, 44} {
		if seen[e] < 5 {
			t.Errorf("error %d is hardly met: %v", e, seen)
		}
	}
}

// P4.2

func TestPrint(t *testing.T) {
	for _, x := range []struct {
		v    api.Json
		want string
	}{
		{api.Json{}, `null`}, {api.Json{Kind: api.JsonFalse}, `false`}, {api.Json{Kind: api.JsonTrue}, `true`},
		{whole(0), `0`}, {whole(-7), `-7`}, {whole(10), `10`}, {whole(api.MaxInt), `9007199254740991`}, {whole(-api.MaxInt), `-9007199254740991`},
		{number(0), `0e0`}, {number(math.Copysign(0, -1)), `-0e0`}, {number(15), `1.5e1`}, {number(0.1), `1.0000000000000001e-1`},
		{text(""), `""`}, {text("a/é😀\x7f"), "\"a/é😀\x7f\""}, {text("\"\\"), `"\"\\"`}, {text("\n\b\x00\x1f\x0b "), `"\u000a\u0008\u0000\u001f\u000b "`},
		{list(), `[]`}, {list(whole(1)), `[1]`}, {list(whole(1), list(), api.Json{}), `[1,[],null]`},
		{object(""), `{}`}, {object("ba", whole(1), object("\"", text("x"))), `{"b":1,"a":{"\"":"x"}}`}, {api.Json{Kind: api.JsonObject, Keys: []string{""}, List: []api.Json{{}}}, `{"":null}`},
	} {
		if s, e := jsons.Print(x.v); s != x.want || e != api.OK {
			t.Errorf("%v: %s, %d, not %s", x.v, s, e, x.want)
		}
	}
}

func TestPrintQuotes(t *testing.T) {
	for c := range rune(0x250) {
		want := `"` + string(c) + `"`
		switch {
		case c < 32:
			want = `"\u00` + string("01"[c/16]) + string("0123456789abcdef"[c%16]) + `"`
		case c == '"', c == '\\':
			want = `"\` + string(c) + `"`
		}
		if s, e := jsons.Print(text(string(c))); s != want || e != api.OK {
			t.Errorf("character %d: %s, %d", c, s, e)
		}
		if s, e := jsons.Print(object(string(c), api.Json{})); s != "{"+want+":null}" || e != api.OK {
			t.Errorf("key of character %d: %s, %d", c, s, e)
		}
	}
}

func TestPrintLong(t *testing.T) {
	bare := func(n int) string { return strings.Repeat("a", n) }
	for _, x := range []struct {
		v    api.Json
		size int
	}{
		{text(bare(65534)), 65536}, {text(bare(65535)), 65537}, {text(bare(1 << 20)), 1<<20 + 2},
		{text(bare(65528) + "\x00"), 65536}, {text(bare(65529) + "\x00"), 65537}, {text(strings.Repeat("\x1f", 20000)), 120002},
		{text(bare(65532) + "\""), 65536}, {text(bare(65533) + "\\"), 65537}, {text(strings.Repeat("é", 32767)), 65536}, {text("a" + strings.Repeat("é", 32767)), 65537},
		{list(slices.Repeat([]api.Json{whole(10)}, 21845)...), 65536}, {list(slices.Repeat([]api.Json{whole(0)}, 32768)...), 65537}, {list(slices.Repeat([]api.Json{{}}, 13107)...), 65536}, {list(append(slices.Repeat([]api.Json{{}}, 13107), whole(1))...), 65538},
		{api.Json{Kind: api.JsonObject, Keys: []string{bare(65527)}, List: []api.Json{{}}}, 65536}, {api.Json{Kind: api.JsonObject, Keys: []string{bare(65528)}, List: []api.Json{{}}}, 65537}, {api.Json{Kind: api.JsonObject, Keys: []string{bare(65531)}, List: []api.Json{whole(1)}}, 65537},
		{list(text(bare(65532))), 65536}, {list(text(bare(65533))), 65537}, {list(text(bare(65528)), api.Json{}), 65537}, {list(text(bare(65519)), whole(-api.MaxInt)), 65541}, {list(text(bare(65528)), number(1)), 65536}, {list(text(bare(65529)), number(1)), 65537},
	} {
		s, e := jsons.Print(x.v)
		want := api.OK
		if x.size > api.MaxJson {
			want, x.size = api.ErrJsonLong, 0
		}
		if model, f := modelPrint(x.v); e != want || len(s) != x.size || s != model || e != f {
			t.Errorf("%.60s: %d bytes, %d, not %d, %d", model, len(s), e, x.size, want)
		}
	}
}

func TestPrintModel(t *testing.T) {
	for _, v := range append(someValues(), brokenValues()...) {
		s, e := jsons.Print(v)
		if want, f := modelPrint(v); s != want || e != f {
			t.Errorf("%v: %s, %d, not %s, %d", v, s, e, want, f)
		}
	}
}

// What may not be decides ahead of what is too long.
func TestPrintFirst(t *testing.T) {
	long := text(strings.Repeat("a", 70000))
	for _, x := range []struct {
		v    api.Json
		want api.Errno
	}{
		{list(long, api.Json{Kind: 8}), 43}, {list(long, nested(api.Json{}, 32)), 41}, {object("ab", long, object("aa", long, long)), 44}, {text(long.Text + "\xff"), 43}, {list(long, long), 42},
	} {
		if s, e := jsons.Print(x.v); s != "" || e != x.want {
			t.Errorf("%d bytes, %d, not %d", len(s), e, x.want)
		}
	}
}
