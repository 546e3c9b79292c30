package jsons_test

import (
	"encoding/json"
	"fmt"
	"math"
	"strings"
	"testing"

	"rhizome/api"
	"rhizome/jsons"
	"rhizome/samples"
)

// isAsModel holds Parse of s against the model.
func isAsModel(t *testing.T, s string) api.Errno {
	t.Helper()
	v, e := jsons.Parse(s)
	if want, f := modelParse(s); e != f || !same(v, want) {
		t.Errorf("%.200q: %.200v, %d, not %.200v, %d", s, v, e, want, f)
	}
	return e
}

// P4.3

func TestParseExamples(t *testing.T) {
	v, e := jsons.Parse(` {"b":[1,-0,1.5e1],"a":"\u00e9\/"} `)
	if s, f := jsons.Print(v); s != `{"b":[1,-0e0,1.5e1],"a":"é/"}` || e != api.OK || f != api.OK {
		t.Error(s, e, f)
	}
	for s, want := range map[string]api.Errno{
		`{"a":1,"\u0061":2}`: api.ErrJsonTwice, `1e999`: api.ErrJsonNumber, `01`: api.ErrJsonText, `[1,]`: api.ErrJsonText, `"\ud800"`: api.ErrJsonText, strings.Repeat("[", 33): api.ErrJsonDeep,
	} {
		if _, e := jsons.Parse(s); e != want {
			t.Errorf("%s: %d", s, e)
		}
	}
	if v, e := jsons.Parse(`9007199254740992`); v.Kind != api.JsonFloat || e != api.OK {
		t.Error(v, e)
	}
}

func TestParse(t *testing.T) {
	for s, want := range map[string]api.Json{
		`null`: {}, `false`: {Kind: api.JsonFalse}, `true`: {Kind: api.JsonTrue}, `""`: text(""), `"a"`: text("a"), `[]`: list(), `{}`: object(""),
		`[null]`: list(api.Json{}), `[[],{}]`: list(list(), object("")), `{"a":1}`: object("a", whole(1)), `{"b":[],"a":{"b":""}}`: object("ba", list(), object("b", text(""))), `{"":0}`: {Kind: api.JsonObject, Keys: []string{""}, List: []api.Json{whole(0)}},
	} {
		if v, e := jsons.Parse(s); !same(v, want) || e != api.OK {
			t.Errorf("%s: %v, %d", s, v, e)
		}
		isAsModel(t, s)
	}
}

func TestParseWrong(t *testing.T) {
	for _, s := range []string{
		"", " ", "\n", "x", "n", "nul", "nulll", "null x", "Null", "NULL", "tru", "truefalse", "fals", "False", "nan", "NaN", "Infinity", "-Infinity", "undefined", "'a'", "a", "\x00", "null\x00", "\ufeffnull", "null\ufeff", "\u00a0null", "\vnull", "\fnull", "/**/1", "1//", "\xff", "\xffnull",
		`"`, `"a`, `"a\`, `"a\"`, `"""`, `a"`, `""a`, `"a" "b"`, `'`,
		`[`, `]`, `[1`, `[1,`, `[,`, `[,]`, `[,1]`, `[1,,2]`, `[1 2]`, `[1}`, `[1]]`, `[[]`, `[]]`, `[1:2]`, `["a":1]`, `[n]`, `[1;2]`, `[]null`,
		`{`, `}`, `{]`, `{"a"`, `{"a"}`, `{"a":`, `{"a":}`, `{"a":1`, `{"a":1,`, `{"a":1,}`, `{,}`, `{,"a":1}`, `{"a":1,,"b":1}`, `{"a" 1}`, `{"a",1}`, `{"a":1 "b":2}`, `{"a":1;"b":2}`, `{"a"::1}`, `{"a":1:2}`, `{a:1}`, `{1:1}`, `{null:1}`, `{[]:1}`, `{"a":1]`, `{"a":1}}`, `{"a":1}{`, `{"a":1},`, `{"a","b"}`, `{"a":1,"b"}`,
		`+1`, `.5`, `e1`, `E`, `+`, `-`, `1 1`,
	} {
		if v, e := jsons.Parse(s); e != api.ErrJsonText || !same(v, api.Json{}) {
			t.Errorf("%q: %v, %d", s, v, e)
		}
		isAsModel(t, s)
	}
}

func TestParseLong(t *testing.T) {
	for _, x := range []struct {
		s    string
		want api.Errno
	}{
		{"null" + strings.Repeat(" ", 65532), 0}, {"null" + strings.Repeat(" ", 65533), 42}, {strings.Repeat("\n", 65532) + "null", 0}, {strings.Repeat(" ", 65536), 40}, {strings.Repeat(" ", 65537), 42},
		{`"` + strings.Repeat("a", 65534) + `"`, 0}, {`"` + strings.Repeat("a", 65535) + `"`, 42}, {strings.Repeat("[", 65536), 41}, {strings.Repeat("[", 65537), 42}, {strings.Repeat("1", 65536), 45}, {strings.Repeat("1", 65537), 42}, {"x" + strings.Repeat("\xff", 65536), 42},
		{`["` + strings.Repeat("é", 32766) + `"]`, 0}, {`["` + strings.Repeat("é", 32766) + `" ]`, 42}, {"[" + strings.Repeat("0,", 32767) + "0]", 42}, {"[" + strings.Repeat("0,", 32766) + "00]", 40}, {"[" + strings.Repeat("0,", 32766) + "10]", 0},
	} {
		if e := isAsModel(t, x.s); e != x.want {
			t.Errorf("%.10q, %d bytes: %d, not %d", x.s, len(x.s), e, x.want)
		}
	}
}

func TestParseStrings(t *testing.T) {
	for s, want := range map[string]string{
		`\"`: "\"", `\\`: "\\", `\/`: "/", `\b`: "\x08", `\f`: "\x0c", `\n`: "\x0a", `\r`: "\x0d", `\t`: "\x09", `/`: "/", "\x7f": "\x7f", `\u0000`: "\x00", `\u001F`: "\x1f", `\u00e9`: "é", `\u00E9`: "é", `\uabcd`: "\uabcd", `\uABCD`: "\uabcd", `\uAbCd`: "\uabcd", `\u20ac\u20AC`: "€€", `\ud7ff`: "\ud7ff", `\ue000`: "\ue000", `\uffff`: "\uffff", `\ufffd`: "\ufffd", `\ufeff`: "\ufeff",
		`\ud800\udc00`: "\U00010000", `\udbff\udfff`: "\U0010ffff", `\ud83d\ude00`: "😀", `\uD83D\uDE00`: "😀", `\ud83d\ude00\ud83d\ude01`: "😀😁", `😀`: "😀", `\\u0041`: "\\u0041", `\\\u0041`: "\\A", `a\nb`: "a\nb", `é€😀`: "é€😀", `\u0022`: "\"", `\u005c`: "\\", `\u0061b`: "ab", `\u00610`: "a0", `\ud800\udc000`: "\U000100000",
	} {
		if v, e := jsons.Parse(`"` + s + `"`); e != api.OK || !same(v, text(want)) {
			t.Errorf("%s: %q, %d", s, v.Text, e)
		}
		if v, e := jsons.Parse(`{"` + s + `":1}`); e != api.OK || len(v.Keys) != 1 || v.Keys[0] != want {
			t.Errorf("key %s: %q, %d", s, v.Keys, e)
		}
		isAsModel(t, `"`+s+`"`)
	}
}

func TestParseStringsWrong(t *testing.T) {
	for _, s := range []string{
		"\x00", "\x1f", "\n", "\t", "a\rb", "\x08", `\a`, `\v`, `\0`, `\'`, `\ `, `\U0041`, `\x41`, `\N`, `\é`, "\\\n", "\\\x00", "\\\xff", `\u`, `\u0`, `\u00`, `\u004`, `\u004g`, `\u 041`, `\u+041`, `\u-041`, `\u0x41`, `\u00_1`, `\uu0041`, `\u00é`, `\`,
		`\ud800`, `\udbff`, `\udc00`, `\udfff`, `\ud800a`, `\ud800\`, `\ud800\n`, `\ud800\\udc00`, `\ud800\u0041`, `\ud800\ud800`, `\ud800\udbff`, `\ud800\ue000`, `\ud800\ud800\udc00`, `\ud800\udc00\udc00`, `\udc00\ud800`, `\ud800 \udc00`, `\ud800\Udc00`, `\ud800udc00`, `\ud800\u`, `\ud800\udc0`, `\ud800\udc0g`, `\ud800😀`,
		"\x80", "\xff", "\xc3", "\xc3\\", "a\xc3b", "\xc0\x80", "\xed\xa0\x80", "\xed\xa0\x80\xed\xb0\x80", "\xf4\x90\x80\x80", "\xe2\x82", "\xc3\\u00a9", "\xf0\x9f\x98",
	} {
		for _, whole := range []string{`"` + s + `"`, `{"` + s + `":1}`, `{"a":1,"` + s + `":1}`, `["` + s + `"]`} {
			if v, e := jsons.Parse(whole); e != api.ErrJsonText || !same(v, api.Json{}) {
				t.Errorf("%q: %v, %d", whole, v, e)
			}
			isAsModel(t, whole)
		}
	}
}

func TestParseNumbers(t *testing.T) {
	zero := math.Copysign(0, -1)
	for s, want := range map[string]api.Json{
		"0": whole(0), "1": whole(1), "-1": whole(-1), "10": whole(10), "-10": whole(-10), "9007199254740991": whole(api.MaxInt), "-9007199254740991": whole(-api.MaxInt), "9007199254740990": whole(api.MaxInt - 1),
		"-0": number(zero), "0.0": number(0), "-0.0": number(zero), "0e0": number(0), "0E0": number(0), "-0e5": number(zero), "1.0": number(1), "1e0": number(1), "1E+2": number(100), "1e-2": number(0.01), "1e05": number(1e5), "15e-1": number(1.5),
		"9007199254740992": number(1 << 53), "-9007199254740992": number(-(1 << 53)), "9007199254740993": number(1 << 53), "9007199254740991.0": number(1<<53 - 1), "9223372036854775807": number(1 << 63), "9223372036854775808": number(1 << 63), "-9223372036854775808": number(-(1 << 63)), "18446744073709551617": number(1 << 64),
		"1.7976931348623157e308": number(math.MaxFloat64), "-1.7976931348623157e308": number(-math.MaxFloat64), "5e-324": number(math.SmallestNonzeroFloat64), "1e-999": number(0), "-1e-999": number(zero), "0e999": number(0), "1" + strings.Repeat("0", 63): number(1e63), "-1" + strings.Repeat("0", 62): number(-1e62), "0." + strings.Repeat("0", 61) + "1": number(1e-62), "1e" + strings.Repeat("0", 62): number(1),
	} {
		for _, about := range []string{"%s", " %s\n", "[%s]", "[ %s,%s ]", `{"a":%s}`} {
			v, e := jsons.Parse(strings.ReplaceAll(about, "%s", s))
			for len(v.List) > 0 {
				v = v.List[len(v.List)-1]
			}
			if !same(v, want) || e != api.OK {
				t.Errorf("%s in %s: %v, %d", s, about, v, e)
			}
		}
		isAsModel(t, s)
	}
}

func TestParseNumbersWrong(t *testing.T) {
	digits := func(n int) string { return strings.Repeat("7", n) }
	for s, want := range map[string]api.Errno{
		"00": 40, "01": 40, "-": 40, "--1": 40, "-01": 40, "-00": 40, "1.": 40, "1.e1": 40, "-.5": 40, "1e": 40, "1e+": 40, "1e+-1": 40, "1.5.5": 40, "1e1e1": 40, "1e1.5": 40, "1-": 40, "1-1": 40, "1+1": 40, "0x10": 40, "1_0": 40, "1f": 40, "1a": 40, "-a": 40, "1,": 40, "-Inf": 40, "1e1_": 40,
		"1e309": 45, "-1e309": 45, "1.7976931348623159e308": 45, "1e999": 45, "-1e99999999999999999999": 45, "17976931348623159" + strings.Repeat("0", 40) + "e252": 45,
		digits(64): 0, digits(65): 45, "-" + digits(63): 0, "-" + digits(64): 45, digits(62) + ".": 40, digits(63) + ".": 40, digits(64) + ".": 45, digits(62) + ".5": 0, digits(63) + ".5": 45, "0" + digits(63): 40, "0" + digits(64): 45, "-" + strings.Repeat("-", 63): 40, "-" + strings.Repeat("-", 64): 45, "1" + strings.Repeat("e", 64): 45, digits(64) + "x": 40, digits(65) + "x": 45, digits(64) + " ": 0, digits(60) + "e999": 45, digits(1000): 45, "0." + digits(62): 0, "0." + digits(63): 45,
		"+" + digits(65): 40, "." + digits(65): 40, "e" + digits(65): 40, strings.Repeat("+", 70): 40,
	} {
		if v, e := jsons.Parse(s); e != want || e != api.OK && !same(v, api.Json{}) {
			t.Errorf("%s: %v, %d, not %d", s, v, e, want)
		}
		isAsModel(t, s)
	}
}

func TestParseDeep(t *testing.T) {
	for _, x := range []struct {
		begin, end string
		n          int
		want       api.Errno
	}{
		{"[", "]", 31, 0}, {"[", "]", 32, 0}, {"[", "]", 33, 41}, {`{"a":`, "}", 31, 40}, {" [ ", " ] ", 32, 0}, {" [ ", " ] ", 33, 41}, {"[null,", "]", 32, 40}, {"[[],", "]", 32, 41}, {"[1,", "]", 33, 41}, {"[", "]", 20000, 41},
	} {
		if e := isAsModel(t, strings.Repeat(x.begin, x.n)+strings.Repeat(x.end, x.n)); e != x.want {
			t.Errorf("%d times %s: %d, not %d", x.n, x.begin, e, x.want)
		}
	}
	for n, want := range map[int]api.Errno{31: 0, 32: 0, 33: 41, 34: 41} {
		s := strings.Repeat(`{"a":`, n) + "1" + strings.Repeat("}", n)
		if e := isAsModel(t, s); e != want {
			t.Errorf("%d objects: %d, not %d", n, e, want)
		}
		s = strings.Repeat(`[[],{"a":`, n/2) + []string{"1", "[]"}[n%2] + strings.Repeat("}]", n/2)
		if e := isAsModel(t, s); e != want {
			t.Errorf("%d lists and objects: %d, not %d", n, e, want)
		}
	}
	side := strings.Repeat("[", 31) + strings.Repeat("]", 31)
	if e := isAsModel(t, "["+side+","+side+`,{"a":`+side[1:61]+"}]"); e != api.OK {
		t.Error("lists beside one another are not within:", e)
	}
}

// Which of several things that are wrong decides: the first from the left.
func TestParseFirst(t *testing.T) {
	deep, long := strings.Repeat("[", 33), strings.Repeat("1", 65)
	for s, want := range map[string]api.Errno{
		`{"a":1,"a"`: 44, `{"a":1,"a":x`: 44, `{"a":1,"a`: 40, `{"a":1,"a\x"`: 40, `{"a":1 "a":2}`: 40, `{"a":1,"a"x`: 44, `{"a":1,"b":1,"a"}`: 44, `{"a":1,"b":1,"b"}`: 44, `{"a":{"a":1},"b":{"a":1}}`: 0, `{"a":1,"A":1}`: 0, `{"a":x,"a":1}`: 40, `{"":1,"":2}`: 44, `{"\n":1,"\u000a":2}`: 44, `{"😀":1,"\ud83d\ude00":2}`: 44, `{"/":1,"\/":2}`: 44, `{"a":1,"a ":2}`: 0, `[{"a":1},{"a":1}]`: 0, `{"a":{"b":1,"b":2},"a":1}`: 44,
		"[" + long + ",x": 45, "[x," + long: 40, "[1e999,": 45, "[1e999 x": 45, `{"a":` + long + `,"a":1}`: 45, `{"a":1,"a":` + long: 44,
		deep + "x": 41, "x" + deep: 40, "[x," + deep: 40, deep[:32] + "x": 40, deep[:32] + "{": 41, deep[:32] + `{"a":1,"a"`: 41, deep[:32] + "]" + deep[:1]: 40, deep[:32] + long: 45, "[" + long + "," + deep: 45, deep[:31] + "1e999," + deep: 45, `{"a":1,"a":` + deep: 44, deep[:31] + `{"a":1,"a":[`: 44, deep[:31] + `{"a":[`: 41,
		`"\ud800` + long: 40, "[1" + deep: 40, "1" + long: 45, "1 " + long: 40, long + " x": 45,
	} {
		if e := isAsModel(t, s); e != want {
			t.Errorf("%s: %d, not %d", s, e, want)
		}
	}
}

func TestParseManyMembers(t *testing.T) {
	var members []string
	for i := range 5000 {
		members = append(members, fmt.Sprintf(`"%d":%d`, i, i))
	}
	s := "{" + strings.Join(members, ",") + "}"
	if v, e := jsons.Parse(s); e != api.OK || len(v.Keys) != 5000 || len(v.List) != 5000 || v.Keys[4999] != "4999" || v.List[4999].Int != 4999 {
		t.Error(len(v.Keys), e)
	}
	if _, e := jsons.Parse(s[:len(s)-1] + `,"2500"`); e != api.ErrJsonTwice {
		t.Error(e)
	}
}

func TestParseModelSigns(t *testing.T) {
	for s := range samples.Rows(5, "[", "]", "{", "}", ",", ":", `"a"`, `"\u0061"`, "-0", "12", " ", "null") {
		isAsModel(t, s)
	}
}

func TestParseModelStrings(t *testing.T) {
	for s := range samples.Rows(4, "a", `"`, `\`, "u", "d83d", `\ud83d`, `\uDE00`, `\u0041`, "\xc3", "\xa9", "\x1f", "\x7f", "/", "n", "0") {
		isAsModel(t, `"`+s+`"`)
	}
}

func TestParseModelNumbers(t *testing.T) {
	for s := range samples.Rows(6, "0", "1", "9", "-", "+", ".", "e") {
		isAsModel(t, s)
	}
}

// Texts of values, with one byte of them changed, left out, or put in.
func TestParseModelBroken(t *testing.T) {
	signs := "[]{},:\"\\ \n0-9.eEnft/ua\x00\x1f\x7f\x80\xc3\xff"
	values := someValues()
	for i, x := range samples.Spread(40000) {
		s := modelText(values[i%len(values)])
		at, c := int(x>>8)%len(s), string(signs[x>>40%uint64(len(signs))])
		switch x % 3 {
		case 0:
			s = s[:at] + c + s[at+1:]
		case 1:
			s = s[:at] + s[at+1:]
		case 2:
			s = s[:at] + c + s[at:]
		}
		isAsModel(t, s)
	}
}

// The library's JSON reads the same texts, but for what rhizome tells as errors of its own.
func TestParseLibrary(t *testing.T) {
	for s := range samples.Rows(5, "[", "]", "{", "}", ",", ":", `"a"`, `"b"`, "1", "1.5e1", "\t", "true") {
		_, e := jsons.Parse(s)
		if e == api.ErrJsonTwice || e == api.ErrJsonNumber {
			continue
		}
		if ok := json.Valid([]byte(s)); ok != (e == api.OK) {
			t.Errorf("%q: %d, library: %v", s, e, ok)
		}
	}
}

// P4.4

func TestGet(t *testing.T) {
	v := object("aba", whole(1), list(whole(2)), whole(3))
	for _, x := range []struct {
		v    api.Json
		key  string
		want api.Json
		ok   bool
	}{
		{v, "a", whole(1), true}, {v, "b", list(whole(2)), true}, {v, "c", api.Json{}, false}, {v, "", api.Json{}, false}, {v, "ab", api.Json{}, false}, {object(""), "a", api.Json{}, false},
		{object("ab", whole(1)), "a", whole(1), true}, {object("ab", whole(1)), "b", api.Json{}, false}, {object("ab"), "a", api.Json{}, false}, {object("a", whole(1), whole(2)), "a", whole(1), true}, {object("abb", whole(1), whole(2)), "b", whole(2), true}, {object("a", api.Json{}), "a", api.Json{}, true},
		{api.Json{Kind: api.JsonObject, Keys: []string{"", "\xff"}, List: []api.Json{whole(1), whole(2)}}, "\xff", whole(2), true}, {api.Json{Kind: api.JsonObject, Keys: []string{"", "\xff"}, List: []api.Json{whole(1), whole(2)}}, "", whole(1), true},
		{api.Json{Kind: api.JsonObject, Int: 5, Text: "\xff", Keys: []string{"a"}, List: []api.Json{{Kind: -5, Int: 1, Bits: 2, Text: "\xff", Keys: []string{"x"}, List: make([]api.Json, 2)}}}, "a", api.Json{Kind: -5, Int: 1, Bits: 2, Text: "\xff", Keys: []string{"x"}, List: make([]api.Json, 2)}, true},
	} {
		if got, ok := jsons.Get(x.v, x.key); !same(got, x.want) || ok != x.ok {
			t.Errorf("%v, %q: %v, %v", x.v, x.key, got, ok)
		}
	}
}

func TestGetOfNoObject(t *testing.T) {
	for _, kind := range []int{math.MinInt, -1, api.JsonNull, api.JsonFalse, api.JsonTrue, api.JsonInt, api.JsonFloat, api.JsonText, api.JsonList, api.JsonKinds, math.MaxInt} {
		if got, ok := jsons.Get(api.Json{Kind: kind, Keys: []string{"a"}, List: []api.Json{whole(1)}}, "a"); ok || !same(got, api.Json{}) {
			t.Errorf("kind %d: %v, %v", kind, got, ok)
		}
	}
}

func TestGetModel(t *testing.T) {
	for _, v := range append(someValues(), brokenValues()...) {
		for _, key := range append([]string{"", "a", "b", "é", "k", "x"}, v.Keys...) {
			got, ok := jsons.Get(v, key)
			if want, found := modelGet(v, key); !same(got, want) || ok != found {
				t.Errorf("%v, %q: %v, %v", v, key, got, ok)
			}
		}
	}
}

// P4.5

func TestThereAndBack(t *testing.T) {
	for _, v := range someValues() {
		s, e := jsons.Print(v)
		again, f := jsons.Parse(s)
		if e != api.OK || f != api.OK || !same(v, again) {
			t.Errorf("%v: %s, %d; %v, %d", v, s, e, again, f)
		}
	}
}

func TestWhatIsParsedMayBe(t *testing.T) {
	seen := 0
	for s := range samples.Rows(4, "[", "]", "{", "}", ",", ":", `"a"`, `"\ud83d\ude00"`, "-0", "1e5", " ", "false", "9007199254740993") {
		v, e := jsons.Parse(s)
		if e != api.OK {
			continue
		}
		seen++
		text, f := jsons.Print(v)
		again, g := jsons.Parse(text)
		if jsons.Check(v) != api.OK || f != api.OK || g != api.OK || !same(v, again) {
			t.Errorf("%s: %v, %s, %d, %v, %d", s, v, text, f, again, g)
		}
	}
	if seen < 100 {
		t.Error("hardly any text is right:", seen)
	}
}

// A text may be parsed though its value's own text is too long.
func TestParsedThatIsTooLongToPrint(t *testing.T) {
	for _, s := range []string{`"` + strings.Repeat(`\n`, 20000) + `"`, "[" + strings.Repeat("1.0,", 16000) + "-0]"} {
		v, e := jsons.Parse(s)
		if text, f := jsons.Print(v); e != api.OK || jsons.Check(v) != api.OK || (f == api.ErrJsonLong) != (len(modelText(v)) > 65536) || f == api.ErrJsonLong && text != "" {
			t.Errorf("%.20s: %d, %d bytes, %d", s, e, len(text), f)
		}
	}
}

func TestBlanks(t *testing.T) {
	pieces := []string{"{", `"a b"`, ":", "[", "1", ",", "-0", ",", "null", ",", "[", "]", ",", "{", "}", ",", `"\t"`, "]", ",", `"c"`, ":", "{", `"d"`, ":", "true", "}", "}"}
	want, e := jsons.Parse(strings.Join(pieces, ""))
	if e != api.OK {
		t.Fatal(e)
	}
	for i := range len(pieces) + 1 {
		for _, blank := range []string{" ", "\t", "\n", "\r", "\r\n\t  "} {
			s := strings.Join(pieces[:i], "") + blank + strings.Join(pieces[i:], "")
			if v, e := jsons.Parse(s); e != api.OK || !same(v, want) {
				t.Errorf("%q: %v, %d", s, v, e)
			}
			isAsModel(t, s)
		}
		for _, blank := range []string{"\v", "\f", "\x00", "\x1f", "\u00a0", "\u2028", "\x85", "\ufeff"} {
			if _, e := jsons.Parse(strings.Join(pieces[:i], "") + blank + strings.Join(pieces[i:], "")); e != api.ErrJsonText {
				t.Errorf("%q as a blank at %d: %d", blank, i, e)
			}
		}
	}
	for _, s := range []string{"nu ll", "- 1", "1 .5", "1. 5", "1 e5", "1e 5", "tr\nue", `"\ u0041"`, `"\u 0041"`, `{"a" "b":1}`} {
		if _, e := jsons.Parse(s); e != api.ErrJsonText {
			t.Errorf("%q: %d", s, e)
		}
	}
}

// R3

func TestZeroBesideErrors(t *testing.T) {
	for _, s := range []string{"[1,2", `{"a":1,"a":2}`, "[1] x", `"a" "b"`, "1 ]", "[1,2,1e999]", strings.Repeat("[1,", 33), `{"a":[1]`, "[1]" + strings.Repeat(" ", 65536)} {
		if v, e := jsons.Parse(s); e == api.OK || v.Kind != 0 || v.Int != 0 || v.Text != "" || v.List != nil || v.Keys != nil {
			t.Errorf("%.40s: %v, %d", s, v, e)
		}
	}
	for _, v := range brokenValues() {
		if s, e := jsons.Print(v); e != api.OK && s != "" {
			t.Errorf("%v: %s, %d", v, s, e)
		}
	}
}

// R4

func TestParsedIsItsOwners(t *testing.T) {
	for _, v := range someValues() {
		s := modelText(v)
		one, _ := jsons.Parse(s)
		two, _ := jsons.Parse(s)
		wreck(one)
		if !same(two, v) {
			t.Fatalf("%s: %v", s, two)
		}
		ownLists(t, two)
	}
}

// ownLists tells whether each list in v is still as it was when those beside it, and those about it, are filled up.
func ownLists(t *testing.T, v api.Json) {
	t.Helper()
	was := copied(v)
	var fill func(api.Json)
	fill = func(x api.Json) {
		for i := len(x.List); i < cap(x.List); i++ {
			x.List[:cap(x.List)][i] = text("filled")
		}
		for i := len(x.Keys); i < cap(x.Keys); i++ {
			x.Keys[:cap(x.Keys)][i] = "filled"
		}
		for _, y := range x.List {
			fill(y)
		}
	}
	fill(v)
	if !same(v, was) {
		t.Fatalf("%v: the room behind a list is another's", was)
	}
	for i := range v.List {
		wreck(v.List[i])
		for j := i + 1; j < len(v.List); j++ {
			if !same(v.List[j], was.List[j]) {
				t.Fatalf("%v: values %d and %d share a list", was, i, j)
			}
		}
	}
}

func TestGotIsItsOwners(t *testing.T) {
	inner := object("pq", list(whole(1), whole(2)), object("r", list(whole(3))))
	v := object("ab", inner, list(inner))
	was := copied(v)
	for _, key := range []string{"a", "b"} {
		got, _ := jsons.Get(v, key)
		wreck(got)
		if !same(v, was) {
			t.Fatal("what is told shares a list with what was handed in")
		}
	}
	room := make([]api.Json, 1, 4)
	room[0] = whole(1)
	got, _ := jsons.Get(object("a", list(room...)), "a")
	_ = append(got.List, text("behind"))
	if !same(room[:2][1], api.Json{}) {
		t.Error("what is told has the room behind what was handed in")
	}
	shared := []api.Json{whole(1)}
	got, _ = jsons.Get(object("a", list(list(shared...), list(shared...))), "a")
	wreck(got.List[0])
	if !same(got.List[1], list(whole(1))) {
		t.Error("two lists of what is told share memory")
	}
	told, _ := jsons.Get(v, "a")
	wreck(v)
	if !same(told, was.List[0]) {
		t.Error("what was told changes with what was handed in")
	}
}

func TestHandedInIsNotChanged(t *testing.T) {
	for _, v := range append(someValues(), brokenValues()...) {
		was := copied(v)
		jsons.Check(v)
		jsons.Print(v)
		jsons.Get(v, "a")
		if !same(v, was) {
			t.Fatalf("%v was %v", v, was)
		}
	}
}

// R1

func TestEnds(t *testing.T) {
	v := object("a", nested(api.Json{}, 60000))
	if e := jsons.Check(v); e != api.ErrJsonDeep {
		t.Error(e)
	}
	if s, e := jsons.Print(v); s != "" || e != api.ErrJsonDeep {
		t.Error(e)
	}
	if got, ok := jsons.Get(v, "a"); !ok || !same(got, v.List[0]) {
		t.Error("a value of many lists and objects")
	}
	for _, s := range []string{strings.Repeat(`{"a":`, 10000), strings.Repeat("[", 65536), strings.Repeat(`"`, 65536), strings.Repeat(`\`, 65536), `"` + strings.Repeat(`\ud800`, 10000)} {
		isAsModel(t, s)
	}
}
