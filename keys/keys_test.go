package keys_test

import (
	"math"
	"slices"
	"strings"
	"testing"

	"rhizome/api"
	"rhizome/keys"
	"rhizome/samples"
)

func whole(n int) api.Part { return api.Part{Kind: api.PartInt, Int: n} }

func number(bits uint64) api.Part { return api.Part{Kind: api.PartFloat, Bits: bits} }

func text(s string) api.Part { return api.Part{Kind: api.PartText, Text: s} }

// someParts are parts that may be a key's, at the edges of each kind.
func someParts() []api.Part {
	var l []api.Part
	for _, n := range []int{math.MinInt, math.MinInt + 1, -1 << 53, -257, -256, -255, -2, -1, 0, 1, 2, 127, 128, 255, 256, 65535, 65536, 1 << 31, 1<<53 - 1, math.MaxInt - 1, math.MaxInt} {
		l = append(l, whole(n))
	}
	for _, size := range []uint64{1, 2, 1<<52 - 1, 1 << 52, math.Float64bits(1), math.Float64bits(1) + 1, math.Float64bits(255), infinity - 1, infinity} {
		l = append(l, number(size), number(sign+size))
	}
	l = append(l, number(0))
	for _, s := range []string{"", "\x00", "\x00\x00", "\x00\x01", "\x00\xff", "\x00\xff\x00", "\x01", "\x01\x00", "a", "a\x00", "a\x00\x00", "a\x00\xff", "a\x00b", "a\x01", "aa", "ab", "a\xff", "a\xff\x00", "b", "é", "\x7f", "\x80", "\xc3", "\xfe", "\xff", "\xff\x00", "\xff\xfe", "\xff\xff", strings.Repeat("\x00", 255), strings.Repeat("a", 255), strings.Repeat("\xff", 255), strings.Repeat("\xff", 254)} {
		l = append(l, text(s))
	}
	return l
}

// someKeys are rows of parts that may be a key's.
func someKeys() [][]api.Part {
	parts := someParts()
	l := [][]api.Part{nil, make([]api.Part, 15), make([]api.Part, 16), slices.Repeat([]api.Part{text("")}, 16), slices.Repeat([]api.Part{number(0)}, 16)}
	for i, p := range parts {
		q, r := parts[i*7%len(parts)], parts[i*29%len(parts)]
		l = append(l, []api.Part{p}, []api.Part{p, whole(0)}, []api.Part{p, text("")}, []api.Part{p, p}, []api.Part{q, p}, []api.Part{q, p, r})
	}
	for _, x := range samples.Spread(60) {
		var key []api.Part
		for n := x % 17; n > 0; n-- {
			key = append(key, parts[(x>>n)%uint64(len(parts))])
		}
		l = append(l, key)
	}
	return l
}

// badParts are parts that may not be a key's.
func badParts() []api.Part {
	l := []api.Part{{Kind: -1}, {Kind: 3}, {Kind: api.PartKinds}, {Kind: math.MinInt}, {Kind: math.MaxInt}, {Kind: 256}, {Kind: 257}, {Kind: -255}, {Kind: -1, Int: 1}, {Kind: 3, Text: "a"},
		{Int: 1, Bits: 1}, {Int: 1, Text: "x"}, {Bits: 1}, {Text: "x"}, {Bits: sign}, {Text: "\x00"}, {Int: -1, Bits: math.MaxUint64, Text: "x"},
		{Kind: api.PartFloat, Int: 1}, {Kind: api.PartFloat, Text: "x"}, {Kind: api.PartFloat, Bits: 1, Int: -1}, {Kind: api.PartFloat, Bits: 1, Text: "\x00"},
		{Kind: api.PartText, Int: 1}, {Kind: api.PartText, Bits: 1}, {Kind: api.PartText, Text: "x", Int: math.MinInt}, {Kind: api.PartText, Text: "x", Bits: 1}, {Kind: api.PartText, Text: "x", Bits: sign},
	}
	for _, bits := range []uint64{sign, infinity + 1, infinity + 1<<51, sign - 1, sign + infinity + 1, sign + infinity + 1<<51, math.MaxUint64} {
		l = append(l, number(bits))
	}
	return append(l, text(strings.Repeat("a", 256)), text(strings.Repeat("\x00", 256)), text(strings.Repeat("\xff", 257)), text(strings.Repeat("a", 70000)))
}

// badKeys are rows of parts that may not be a key's: a bad part at each place, or too many parts.
func badKeys() [][]api.Part {
	l := [][]api.Part{make([]api.Part, 17), slices.Repeat([]api.Part{text("a")}, 17), slices.Repeat([]api.Part{number(1)}, 17), make([]api.Part, 300)}
	for _, p := range badParts() {
		l = append(l, []api.Part{p}, []api.Part{p, whole(1)}, []api.Part{whole(1), p}, []api.Part{text("a"), p, number(0)}, append(make([]api.Part, 15), p), append(make([]api.Part, 16), p))
	}
	return l
}

func mustEncode(t *testing.T, l []api.Part) string {
	t.Helper()
	s, e := keys.Encode(l)
	if e != api.OK {
		t.Fatalf("%v: %v", l, e)
	}
	return s
}

// P3.1

func TestCheck(t *testing.T) {
	for _, l := range someKeys() {
		if e := keys.Check(l); e != api.OK || modelCheck(l) != api.OK {
			t.Errorf("%v: %v", l, e)
		}
	}
	for _, l := range badKeys() {
		if e := keys.Check(l); e != api.ErrKeysForm || modelCheck(l) != api.ErrKeysForm {
			t.Errorf("%v: %v", l, e)
		}
	}
}

func TestEncodeExamples(t *testing.T) {
	for _, x := range []struct {
		l    []api.Part
		want string
	}{
		{nil, ""},
		{[]api.Part{}, ""},
		{[]api.Part{whole(-1)}, "\x01\x7f\xff\xff\xff\xff\xff\xff\xff"},
		{[]api.Part{text("a\x00")}, "\x03a\x00\xff\x00\x00"},
		{[]api.Part{whole(0)}, "\x01\x80\x00\x00\x00\x00\x00\x00\x00"},
		{[]api.Part{whole(0x0102030405060708)}, "\x01\x81\x02\x03\x04\x05\x06\x07\x08"},
		{[]api.Part{whole(math.MinInt)}, "\x01\x00\x00\x00\x00\x00\x00\x00\x00"},
		{[]api.Part{whole(math.MaxInt)}, "\x01\xff\xff\xff\xff\xff\xff\xff\xff"},
		{[]api.Part{number(0)}, "\x02\x80\x00\x00\x00\x00\x00\x00\x00"},
		{[]api.Part{number(1)}, "\x02\x80\x00\x00\x00\x00\x00\x00\x01"},
		{[]api.Part{number(sign + 1)}, "\x02\x7f\xff\xff\xff\xff\xff\xff\xff"},
		{[]api.Part{number(math.Float64bits(1))}, "\x02\xbf\xf0\x00\x00\x00\x00\x00\x00"},
		{[]api.Part{number(infinity)}, "\x02\xff\xf0\x00\x00\x00\x00\x00\x00"},
		{[]api.Part{number(sign + infinity)}, "\x02\x00\x10\x00\x00\x00\x00\x00\x00"},
		{[]api.Part{text("")}, "\x03\x00\x00"},
		{[]api.Part{text("\x00")}, "\x03\x00\xff\x00\x00"},
		{[]api.Part{text("\x00\x00")}, "\x03\x00\xff\x00\xff\x00\x00"},
		{[]api.Part{text("\xff\x00\xff")}, "\x03\xff\x00\xff\xff\x00\x00"},
		{[]api.Part{text("b"), whole(1), text("")}, "\x03b\x00\x00\x01\x80\x00\x00\x00\x00\x00\x00\x01\x03\x00\x00"},
		{slices.Repeat([]api.Part{text(strings.Repeat("\x00", 255))}, 16), strings.Repeat("\x03"+strings.Repeat("\x00\xff", 255)+"\x00\x00", 16)},
	} {
		if s, e := keys.Encode(x.l); s != x.want || e != api.OK {
			t.Errorf("%v: %q, %v", x.l, s, e)
		}
		if l, e := keys.Decode(x.want); !slices.Equal(l, x.l) || e != api.OK {
			t.Errorf("%q: %v, %v", x.want, l, e)
		}
	}
}

func TestEncode(t *testing.T) {
	for _, l := range someKeys() {
		want, _ := modelEncode(l)
		if s, e := keys.Encode(l); s != want || e != api.OK {
			t.Errorf("%v: %q, %v", l, s, e)
		}
	}
}

func TestEncodeOfNoKey(t *testing.T) {
	for _, l := range badKeys() {
		if s, e := keys.Encode(l); s != "" || e != api.ErrKeysForm {
			t.Errorf("%v: %q, %v", l, s, e)
		}
	}
}

// wantDecode holds Decode of s against the model.
func wantDecode(t *testing.T, s string) {
	t.Helper()
	l, e := keys.Decode(s)
	want, wantE := modelDecode(s)
	if !slices.Equal(l, want) || e != wantE {
		t.Errorf("%q: %v, %v; asked for %v, %v", s, l, e, want, wantE)
	}
}

func TestDecodeOfNoKey(t *testing.T) {
	zeros := strings.Repeat("\x00", 8)
	for _, s := range []string{
		"\x00", "\x04", "\x05", "\xff", "a", "\x00" + zeros, "\x04" + zeros, "\x80" + zeros, "\xff" + zeros,
		"\x01", "\x01\x00", "\x01" + zeros[1:], "\x01" + zeros + "\x00", "\x01" + zeros + "\x01", "\x01" + zeros + zeros,
		"\x02", "\x02\x80", "\x02\x80" + zeros[2:], "\x02\x80" + zeros[1:] + "\x00",
		"\x02" + zeros, "\x02\x00\x0f\xff\xff\xff\xff\xff\xff", "\x02\xff\xf0\x00\x00\x00\x00\x00\x01", "\x02\xff\xff\xff\xff\xff\xff\xff\xff",
		"\x03", "\x03\x00", "\x03a", "\x03a\x00", "\x03\x00\x01", "\x03a\x00b\x00\x00", "\x03\x00\xfe\x00\x00", "\x03\x00\xff", "\x03\x00\xff\x00", "\x03a\x00\xff\x00\xff", "\x03\xff\xff",
		"\x03\x00\x00\x00", "\x03\x00\x00\x00\x00", "\x03\x00\x00\xff", "\x03\x00\x00a", "\x03a\x00\x00\x03", "\x03a\x00\x00\x03\x00",
		"\x03" + strings.Repeat("a", 256) + "\x00\x00", "\x03" + strings.Repeat("\x00\xff", 256) + "\x00\x00", "\x03" + strings.Repeat("a", 255) + "\x00\xff\x00\x00",
		strings.Repeat("\x03\x00\x00", 17), strings.Repeat("\x01"+zeros, 17), strings.Repeat("\x03\x00\x00", 16) + "\x03", strings.Repeat("\x03\x00\x00", 16) + "\x00", strings.Repeat("\x03\x00\x00", 400),
	} {
		if l, e := keys.Decode(s); l != nil || e != api.ErrKeysText {
			t.Errorf("%q: %v, %v", s, l, e)
		}
		wantDecode(t, s)
	}
}

// All rows of few bytes that matter: those that are no key's outweigh the others.
func TestDecodeOfAllShortRows(t *testing.T) {
	rows, good := []string{""}, 0
	for length := 0; length < 7; length++ {
		var longer []string
		for _, s := range rows {
			wantDecode(t, s)
			if _, e := keys.Decode(s); e == api.OK {
				good++
			}
			for _, b := range []string{"\x00", "\x01", "\x03", "a", "\xff"} {
				longer = append(longer, s+b)
			}
		}
		rows = longer
	}
	// One of no part; texts of all rows of other bytes than 0, and of 0 for two bytes; two empty ones.
	if want := 1 + 1 + 4 + 17 + 72 + 1; good != want {
		t.Errorf("%d keys among all, not %d", good, want)
	}
}

// Bytes of keys with one of them changed, taken away or put in, and all their beginnings and ends.
func TestDecodeOfBrokenBytes(t *testing.T) {
	for _, key := range someKeys() {
		s := mustEncode(t, key)
		if len(s) > 40 {
			continue
		}
		for i := range s {
			wantDecode(t, s[:i])
			wantDecode(t, s[i:])
			wantDecode(t, s[:i]+s[i+1:])
			for _, b := range []string{"\x00", "\x01", "\x02", "\x03", "\x04", "a", "\xfe", "\xff"} {
				wantDecode(t, s[:i]+b+s[i+1:])
				wantDecode(t, s[:i]+b+s[i:])
				wantDecode(t, s+b)
			}
		}
	}
}

func TestDecodeBounds(t *testing.T) {
	for _, s := range []string{strings.Repeat("\x03\x00\x00", 16), "\x03" + strings.Repeat("a", 255) + "\x00\x00", "\x03" + strings.Repeat("\x00\xff", 255) + "\x00\x00"} {
		if l, e := keys.Decode(s); len(l) == 0 || e != api.OK {
			t.Errorf("%q: %v, %v", s, l, e)
		}
		wantDecode(t, s)
	}
	if l, e := keys.Decode(""); len(l) != 0 || e != api.OK {
		t.Errorf("nothing: %v, %v", l, e)
	}
}

// P3.2

func TestCmpExamples(t *testing.T) {
	for _, x := range []struct{ a, b []api.Part }{
		{[]api.Part{whole(1)}, []api.Part{whole(1), whole(2)}},
		{[]api.Part{whole(5)}, []api.Part{text("")}},
		{[]api.Part{whole(math.MaxInt)}, []api.Part{number(sign + infinity)}},
		{[]api.Part{number(infinity)}, []api.Part{text("")}},
		{nil, []api.Part{whole(math.MinInt)}},
		{[]api.Part{whole(math.MinInt)}, []api.Part{whole(math.MaxInt)}},
		{[]api.Part{whole(-1)}, []api.Part{whole(0)}},
		{[]api.Part{whole(1), whole(9), whole(9)}, []api.Part{whole(2)}},
		{[]api.Part{number(sign + infinity)}, []api.Part{number(sign + infinity - 1)}},
		{[]api.Part{number(sign + 2)}, []api.Part{number(sign + 1)}},
		{[]api.Part{number(sign + 1)}, []api.Part{number(0)}},
		{[]api.Part{number(0)}, []api.Part{number(1)}},
		{[]api.Part{number(infinity - 1)}, []api.Part{number(infinity)}},
		{[]api.Part{text("")}, []api.Part{text("\x00")}},
		{[]api.Part{text("a"), text("z")}, []api.Part{text("a\x00")}},
		{[]api.Part{text("a\x00")}, []api.Part{text("a\x00\x00")}},
		{[]api.Part{text("a\x00\xff")}, []api.Part{text("a\x01")}},
		{[]api.Part{text("Z")}, []api.Part{text("a")}},
		{[]api.Part{text("z")}, []api.Part{text("é")}},
		{[]api.Part{text("\xff")}, []api.Part{text("\xff\x00")}},
		{make([]api.Part, 15), make([]api.Part, 16)},
	} {
		if got := keys.Cmp(x.a, x.b); got != -1 {
			t.Errorf("%v, %v: %d", x.a, x.b, got)
		}
		if got := keys.Cmp(x.b, x.a); got != 1 {
			t.Errorf("%v, %v: %d", x.b, x.a, got)
		}
	}
	if keys.Cmp(nil, []api.Part{}) != 0 || keys.Cmp([]api.Part{text("a"), whole(1)}, []api.Part{text("a"), whole(1)}) != 0 {
		t.Error("like keys are told apart")
	}
}

func TestCmp(t *testing.T) {
	l := someKeys()
	for _, a := range l {
		for _, b := range l {
			if got, want := keys.Cmp(a, b), modelCmp(a, b); got != want {
				t.Fatalf("%v, %v: %d, not %d", a, b, got, want)
			}
		}
	}
}

// R1: of parts that may not be a key's nothing is said but that the call ends.
func TestCmpOfNoKeysEnds(t *testing.T) {
	l := badKeys()
	for _, a := range l {
		for _, b := range l {
			if got := keys.Cmp(a, b); got < -1 || got > 1 {
				t.Errorf("%d", got)
			}
		}
	}
}

// P3.3

func TestAfterExamples(t *testing.T) {
	for _, x := range []struct{ s, want string }{
		{"ab", "ac"}, {"a\xff", "b"}, {"a\xff\xff\xff", "b"}, {"\x00", "\x01"}, {"\x00\x00", "\x00\x01"}, {"\x00\xff", "\x01"}, {"\xfe", "\xff"}, {"\xfe\xff", "\xff"},
		{"\xff\x00", "\xff\x01"}, {"\xff\xfe", "\xff\xff"}, {"\xff\xfe\xff", "\xff\xff"}, {"a\xff\x00", "a\xff\x01"}, {"\x7f", "\x80"}, {"\xc3\xa9", "\xc3\xaa"}, {"\xef\xbf\xbd", "\xef\xbf\xbe"}, {"\x80", "\x81"}, {"a\x80\xff", "a\x81"},
	} {
		if s, ok := keys.After(x.s); s != x.want || !ok {
			t.Errorf("%q: %q, %v", x.s, s, ok)
		}
	}
	for _, s := range []string{"", "\xff", "\xff\xff", strings.Repeat("\xff", 1000)} {
		if got, ok := keys.After(s); got != "" || ok {
			t.Errorf("%q: %q, %v", s, got, ok)
		}
	}
}

// shortRows are all rows of up to n bytes of those that matter.
func shortRows(n int) []string {
	all, last := []string{""}, []string{""}
	for range n {
		var longer []string
		for _, s := range last {
			for _, b := range []string{"\x00", "\x01", "a", "b", "\xfe", "\xff"} {
				longer = append(longer, s+b)
			}
		}
		all, last = append(all, longer...), longer
	}
	return all
}

func TestAfterOfEachByte(t *testing.T) {
	for b := range 255 {
		for _, ahead := range []string{"", "a", "\xff", "\x00"} {
			s := ahead + string([]byte{byte(b)})
			want := ahead + string([]byte{byte(b + 1)})
			if got, ok := keys.After(s); got != want || !ok {
				t.Errorf("%q: %q, %v", s, got, ok)
			}
		}
	}
}

// wantAfter holds After(s) against its words: among rows.
func wantAfter(t *testing.T, s string, rows []string) {
	t.Helper()
	after, ok := keys.After(s)
	if !ok {
		if after != "" || strings.Trim(wide(s), "ÿ") != "" {
			t.Errorf("%q: %q, %v", s, after, ok)
		}
		return
	}
	if strings.HasPrefix(after, s) || strings.HasSuffix(after, "\x00") || after <= s {
		t.Errorf("%q: %q", s, after)
	}
	for _, row := range rows {
		begins := strings.HasPrefix(row, s)
		if begins && row >= after || !begins && row >= s && row < after {
			t.Errorf("%q: %q, beside %q", s, after, row)
		}
	}
}

func TestAfter(t *testing.T) {
	rows := shortRows(4)
	for _, s := range shortRows(3) {
		wantAfter(t, s, rows)
		long := s + strings.Repeat("\xff", 300)
		if after, ok := keys.After(s); ok && long >= after {
			t.Errorf("%q: %q", s, after)
		}
	}
}

// P3.4

func TestKeysStandAsTheirBytesDo(t *testing.T) {
	l := someKeys()
	for _, a := range l {
		s := mustEncode(t, a)
		for _, b := range l {
			if got, want := keys.Cmp(a, b), strings.Compare(s, mustEncode(t, b)); got != want {
				t.Fatalf("%v, %v: %d, their bytes %d", a, b, got, want)
			}
		}
	}
}

func TestDecodeOfEncode(t *testing.T) {
	for _, key := range someKeys() {
		if l, e := keys.Decode(mustEncode(t, key)); !slices.Equal(l, key) || e != api.OK {
			t.Errorf("%v: %v, %v", key, l, e)
		}
	}
}

func TestNoOtherBytesAreDecoded(t *testing.T) {
	rows := shortRows(6)
	for _, x := range samples.Spread(3000) {
		row := []byte{byte(1 + x%2)}
		for i := range 8 {
			row = append(row, byte(x>>(8*i)))
		}
		rows = append(rows, string(row))
	}
	for _, s := range rows {
		for _, s := range []string{s, "\x03" + s, "\x03" + s + "\x00\x00"} {
			if l, e := keys.Decode(s); e == api.OK && mustEncode(t, l) != s {
				t.Errorf("%q: %v", s, l)
			}
		}
	}
}

func TestBytesOfTwoRowsTogether(t *testing.T) {
	l := someKeys()
	for i, a := range l {
		b := l[i*31%len(l)]
		if together := slices.Concat(a, b); len(together) <= api.MaxParts {
			if s := mustEncode(t, together); s != mustEncode(t, a)+mustEncode(t, b) {
				t.Errorf("%v, %v: %q", a, b, s)
			}
		}
	}
}

func TestKeysBetweenAKeyAndAfter(t *testing.T) {
	l := someKeys()
	for _, a := range l {
		s := mustEncode(t, a)
		after, ok := keys.After(s)
		for _, b := range l {
			row := mustEncode(t, b)
			within := row >= s && (row < after || !ok)
			if begins := len(b) >= len(a) && slices.Equal(b[:len(a)], a); within != begins {
				t.Errorf("%v, %v: %v", a, b, within)
			}
		}
	}
}

// R4

func TestWhatIsToldIsItsOwners(t *testing.T) {
	for _, key := range someKeys() {
		s := mustEncode(t, key)
		first, _ := keys.Decode(s)
		second, _ := keys.Decode(s)
		for i := range first[:cap(first)] {
			first[:cap(first)][i] = api.Part{Kind: 9, Text: "other"}
		}
		if third, _ := keys.Decode(s); !slices.Equal(second, key) || !slices.Equal(third, key) {
			t.Errorf("%v: %v, %v", key, second, third)
		}
	}
}

func TestWhatIsHandedInStays(t *testing.T) {
	for _, key := range slices.Concat(someKeys(), badKeys()) {
		room := append(slices.Clone(key), api.Part{Kind: 7, Int: 7}, api.Part{Kind: 8})
		before := slices.Clone(room)
		keys.Check(room[:len(key)])
		keys.Encode(room[:len(key)])
		keys.Cmp(room[:len(key)], room[:len(key)/2])
		if !slices.Equal(room, before) {
			t.Errorf("%v: changed to %v", before, room)
		}
	}
}
