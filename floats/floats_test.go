package floats_test

import (
	"math"
	"math/big"
	"slices"
	"strings"
	"testing"

	"rhizome/api"
	"rhizome/floats"
	"rhizome/samples"
)

// edgeSizes are finite sizes beside each bound: of tiny and normal ones, of powers of two and of ten, of whole numbers.
func edgeSizes() []uint64 {
	l := []uint64{0, 1, 2, 3, 4, 5, leastFull / 2, leastFull - 2, leastFull - 1, leastFull, leastFull + 1, leastFull + 2, 2*leastFull - 1, 2 * leastFull, greatest - 2, greatest - 1, greatest}
	for x := uint64(1); x < 2047; x += 31 {
		l = append(l, x<<52-1, x<<52, x<<52+1)
	}
	for _, f := range []float64{0.1, 0.2, 0.25, 0.3, 0.5, 1, 1.5, 2, 3, 5, 9, 10, 100, 1234.5, 1e15, 1e16, 1e17, 1e21, 1e22, 1e23, 1e100, 1e-5, 1e-22, 1e-100, 9007199254740991, 9007199254740992, 9007199254740994, 9.5, 99.5, math.Pi} {
		l = append(l, math.Float64bits(f)-1, math.Float64bits(f), math.Float64bits(f)+1)
	}
	return l
}

// finites are finite numbers of both signs.
func finites() []uint64 {
	l := edgeSizes()
	for _, x := range samples.Spread(700) {
		l = append(l, x%infinity)
	}
	n := len(l)
	for _, x := range l[:n] {
		l = append(l, sign+x)
	}
	return l
}

var infinities = []uint64{infinity, sign + infinity}

// noNumbers are NaNs, with each part of their bits at its bounds.
var noNumbers = []uint64{infinity + 1, infinity + 2, infinity + 1<<51, infinity + 1<<51 + 1, sign - 1, sign + infinity + 1, sign + infinity + 1<<51, math.MaxUint64}

func signed(size uint64, below bool) uint64 {
	if below {
		return sign + size
	}
	return size
}

// P2.1

func TestKind(t *testing.T) {
	for _, x := range []struct {
		bits uint64
		want int
	}{
		{0, api.FloatZero}, {1, api.FloatTiny}, {leastFull - 1, api.FloatTiny}, {leastFull, api.FloatNormal}, {math.Float64bits(1), api.FloatNormal},
		{greatest, api.FloatNormal}, {infinity, api.FloatInf}, {infinity + 1, api.FloatNan}, {infinity + 1<<51, api.FloatNan}, {sign - 1, api.FloatNan},
	} {
		for _, bits := range []uint64{x.bits, sign + x.bits} {
			if got := floats.Kind(bits); got != x.want {
				t.Errorf("%x: %d", bits, got)
			}
		}
	}
	for _, bits := range slices.Concat(finites(), infinities, noNumbers, samples.Spread(3000)) {
		if got := floats.Kind(bits); got != modelKind(bits) {
			t.Errorf("%x: %d", bits, got)
		}
	}
}

// modelCmp holds the signs against each other, then the sizes; that bigger sizes are bigger amounts is told by TestSizesRise.
func modelCmp(a, b uint64) int {
	place := func(x uint64) int {
		if x >= sign {
			return -int(x - sign)
		}
		return int(x)
	}
	switch x, y := place(a), place(b); {
	case x < y:
		return -1
	case x > y:
		return 1
	}
	return 0
}

func TestSizesRise(t *testing.T) {
	l := edgeSizes()
	slices.Sort(l)
	for i := range len(l) - 1 {
		if c := modelAmount(l[i]).Cmp(modelAmount(l[i+1])); (c < 0) != (l[i] < l[i+1]) {
			t.Fatalf("%x, %x: %d", l[i], l[i+1], c)
		}
	}
}

func TestCmp(t *testing.T) {
	l := slices.Concat(finites(), infinities)
	for _, a := range l {
		for _, b := range l {
			if c, ok := floats.Cmp(a, b); c != modelCmp(a, b) || !ok {
				t.Fatalf("%x, %x: %d, %v", a, b, c, ok)
			}
		}
	}
}

func TestCmpWithNoNumber(t *testing.T) {
	for _, a := range noNumbers {
		for _, b := range slices.Concat(noNumbers, infinities, []uint64{0, sign, 1, math.Float64bits(-1)}) {
			if c, ok := floats.Cmp(a, b); c != 0 || ok {
				t.Errorf("%x, %x: %d, %v", a, b, c, ok)
			}
			if c, ok := floats.Cmp(b, a); c != 0 || ok {
				t.Errorf("%x, %x: %d, %v", b, a, c, ok)
			}
		}
	}
}

// P2.2

func wantParse(t *testing.T, s string) {
	t.Helper()
	bits, e := modelParse(s)
	if got, err := floats.Parse(s); got != bits || err != e {
		t.Errorf("Parse(%q): %x, %d, not %x, %d", s, got, err, bits, e)
	}
}

func TestParseExamples(t *testing.T) {
	for s, want := range map[string]uint64{
		"1": 0x3ff0000000000000, "-0": sign, "0.1": 0x3fb999999999999a, "1e-400": 0, "-1e-400": sign, "0": 0, "-0.0e+9": sign, "0e99": 0,
		"5e-324": 1, "-5e-324": sign + 1, "100E+1": math.Float64bits(1000), "1.7976931348623157e308": greatest, "2.2250738585072014e-308": leastFull,
		"12.5": 0x4029000000000000, "-2": 0xc000000000000000, "1e05": math.Float64bits(100000), "2.50": 0x4004000000000000,
	} {
		if got, e := floats.Parse(s); got != want || e != api.OK {
			t.Errorf("%s: %x, %d", s, got, e)
		}
		wantParse(t, s)
	}
}

func TestParseBig(t *testing.T) {
	for _, s := range []string{"1e400", "-1e400", "1e309", "1.7976931348623159e308", "-1.7976931348623159e308", "1e" + strings.Repeat("9", 62), strings.Repeat("9", 59) + "e300"} {
		if got, e := floats.Parse(s); got != 0 || e != api.ErrFloatBig {
			t.Errorf("%s: %x, %d", s, got, e)
		}
		wantParse(t, s)
	}
}

func TestParseBesideTheBound(t *testing.T) {
	l := textsAround(halfway(greatest))
	if got, e := floats.Parse(l[0]); got != greatest || e != api.OK {
		t.Errorf("%s: %x, %d", l[0], got, e)
	}
	if got, e := floats.Parse("-" + l[0]); got != sign+greatest || e != api.OK {
		t.Errorf("-%s: %x, %d", l[0], got, e)
	}
	for _, s := range []string{l[1], "-" + l[1]} {
		if got, e := floats.Parse(s); got != 0 || e != api.ErrFloatBig {
			t.Errorf("%s: %x, %d", s, got, e)
		}
	}
}

func TestParseNoText(t *testing.T) {
	for _, s := range []string{
		"", "-", "+", "+1", "--1", "01", "-01", "00", "00.5", "1.", "-1.", ".5", "-.5", ".", "1.e5", "1e", "1E", "1e+", "1e-", "1e+-1", "1e1.5", "1e5e5", "1.2.3", "e5", "1ee5",
		" 1", "1 ", "1\n", "\t1", "1\x00", "\x001", "1_000", "1,5", "0x1", "0X1p3", "0b1", "0o7", "1p5", "1f", "1d", "Inf", "inf", "+Inf", "-inf", "Infinity", "NaN", "nan", "null",
		"\u0661", "1\u0660", "\uff11", "1\xff", "\xff", "1e\u0661", "\u22121", "1/2", "1:", "0:", "1e/", "1e:", "1./", "1.:",
	} {
		if got, e := floats.Parse(s); got != 0 || e != api.ErrFloatText {
			t.Errorf("%q: %x, %d", s, got, e)
		}
		wantParse(t, s)
	}
}

func TestParseShortRowsOfItsBytes(t *testing.T) {
	const bytes = "019-+.eE"
	row := []string{""}
	for range 6 {
		var longer []string
		for _, s := range row {
			for i := range len(bytes) {
				longer = append(longer, s+bytes[i:i+1])
			}
		}
		row = longer
		for _, s := range row {
			_, _, ok := modelRead(s)
			if got, e := floats.Parse(s); (e != api.ErrFloatText) != ok || e != api.OK && got != 0 {
				t.Fatalf("%q: %x, %d", s, got, e)
			}
		}
	}
}

func TestParseOtherBytes(t *testing.T) {
	for a := range 256 {
		x := string([]byte{byte(a)})
		for _, s := range []string{x, x + "1", "1" + x, "-" + x, "1" + x + "5", "1." + x, "1e" + x, "1.5" + x, "1e5" + x, "0" + x, "1e" + x + "5", "1.5e+" + x} {
			wantParse(t, s)
		}
	}
}

func TestParseLengths(t *testing.T) {
	fill := func(ahead, what, behind string, size int) string {
		return ahead + strings.Repeat(what, size-len(ahead)-len(behind)) + behind
	}
	for _, size := range []int{62, 63, 64, 65, 66, 128, 1000} {
		for _, s := range []string{
			fill("1", "0", "", size), fill("-", "9", "", size), fill("0.", "0", "", size), fill("0.", "0", "1", size), fill("-0.", "3", "", size), fill("1e", "0", "", size), fill("1e", "0", "5", size),
			fill("1e", "9", "", size), fill("1e-", "9", "", size), fill("0e", "9", "", size), fill("-0e+", "9", "", size), fill("0.", "0", "1e99", size), fill("1", "0", "e-60", size), fill("1", "0", "e-300", size),
			fill("0.", "0", "e"+strings.Repeat("9", 30), size), fill("1e", "0", "4", size), fill("0", "0", "", size),
		} {
			wantParse(t, s)
			if got, e := floats.Parse(s); size > 64 && (got != 0 || e != api.ErrFloatText) {
				t.Errorf("%d bytes, %s: %x, %d", size, s, got, e)
			}
		}
	}
	if _, e := floats.Parse(fill("1", "0", "", 64)); e != api.OK {
		t.Errorf("64 bytes: %d", e)
	}
	for d := range 10 {
		if got, e := floats.Parse(string([]byte{byte('0' + d)})); got != math.Float64bits(float64(d)) || e != api.OK {
			t.Errorf("one byte, %d: %x, %d", d, got, e)
		}
	}
}

func TestParseHalfway(t *testing.T) {
	for s, want := range map[string]uint64{
		"9007199254740993": 0x4340000000000000, "9007199254740995": 0x4340000000000002, "-9007199254740993": 0xc340000000000000, "9007199254740993.0": 0x4340000000000000,
		"9007199254740993.00000000000000000000000000000000000000000000001": 0x4340000000000001,
		"9007199254740992.99999999999999999999999999999999999999999999999": 0x4340000000000000,
		"1.00000000000000011102230246251565404236316680908203125":          0x3ff0000000000000,
		"1.000000000000000111022302462515654042363166809082031251":         0x3ff0000000000001,
		"1.00000000000000033306690738754696212708950042724609375":          0x3ff0000000000002,
		"1.000000000000000333066907387546962127089500427246093749":         0x3ff0000000000001,
		"2.4703282292062327e-324":                                          0,
		"2.4703282292062328e-324":                                          1,
		"7.4109846876186981e-324":                                          1,
		"7.4109846876186982e-324":                                          2,
	} {
		if got, e := floats.Parse(s); got != want || e != api.OK {
			t.Errorf("%s: %x, %d", s, got, e)
		}
		wantParse(t, s)
	}
}

func TestParseBesideHalfway(t *testing.T) {
	for i, size := range slices.Concat(edgeSizes(), samples.Spread(300)) {
		size %= infinity
		for _, s := range textsAround(halfway(size)) {
			if i%3 == 0 {
				s = "-" + s
			}
			wantParse(t, s)
		}
	}
}

func TestParseSpread(t *testing.T) {
	x := samples.Spread(4000)
	for i := 0; i < len(x); i += 4 {
		whole := new(big.Int).SetUint64(x[i]).String()
		part := new(big.Int).SetUint64(x[i+1]).String()
		n := new(big.Int).SetUint64(x[i+2] % 340).String()
		for _, s := range []string{whole, whole + "." + part, whole[:1+x[i+3]%9] + "." + part[:1+x[i+3]/9%9] + "e" + n, whole[:3] + "." + part + "E-" + n} {
			wantParse(t, s)
		}
	}
}

func TestOf(t *testing.T) {
	for n, want := range map[int]uint64{0: 0, 1: 0x3ff0000000000000, -1: 0xbff0000000000000, 1<<53 + 1: 0x4340000000000000, 1<<53 + 3: 0x4340000000000002, -1<<53 - 1: 0xc340000000000000, math.MaxInt: 0x43e0000000000000, math.MinInt: 0xc3e0000000000000} {
		if got := floats.Of(n); got != want {
			t.Errorf("%d: %x", n, got)
		}
	}
	l := []int{0, 1, 2, 3, 1<<53 - 1, 1 << 53, 1<<54 + 2, 1<<54 + 6, 1<<62 - 1, 1<<62 + 256, 1<<62 + 257, math.MaxInt - 511, math.MaxInt - 512, math.MaxInt - 513, math.MaxInt}
	for _, x := range samples.Spread(500) {
		l = append(l, int(x>>1), int(x>>8), int(x>>40))
	}
	for _, n := range l {
		for _, n := range []int{n, -n, -n - 1} {
			size, _ := modelNearest(new(big.Rat).SetInt(new(big.Int).Abs(big.NewInt(int64(n)))))
			if got := floats.Of(n); got != signed(size, n < 0) {
				t.Errorf("%d: %x", n, got)
			}
		}
	}
}

// P2.3

func TestTextExamples(t *testing.T) {
	for bits, want := range map[uint64]string{
		0x3fb999999999999a: "1.0000000000000001e-1", 0x3ff0000000000000: "1e0", 1: "4.9406564584124654e-324", sign + 1: "-4.9406564584124654e-324", 0: "0e0", sign: "-0e0",
		greatest: "1.7976931348623157e308", sign + greatest: "-1.7976931348623157e308", leastFull: "2.2250738585072014e-308", leastFull - 1: "2.2250738585072009e-308",
		math.Float64bits(-1234.5): "-1.2345e3", math.Float64bits(10): "1e1", math.Float64bits(100): "1e2", math.Float64bits(20): "2e1", math.Float64bits(101): "1.01e2", math.Float64bits(1e10): "1e10", math.Float64bits(1e-10): "1e-10",
		math.Float64bits(0.5): "5e-1", math.Float64bits(1e100): "1e100", math.Float64bits(1e23): "9.9999999999999992e22", math.Float64bits(1 << 60): "1.152921504606847e18",
	} {
		if got, e := floats.Text(bits); got != want || e != api.OK {
			t.Errorf("%x: %s, %d", bits, got, e)
		}
	}
}

func TestTextHalfway(t *testing.T) {
	for f, want := range map[float64]string{
		1125899906842624.25: "1.1258999068426242e15", 1125899906842624.75: "1.1258999068426248e15", 1125899906842625.25: "1.1258999068426252e15",
		-1125899906842625.75: "-1.1258999068426258e15", 2251799813685246.75: "2.2517998136852468e15", 1125899906842649.75: "1.1258999068426498e15",
	} {
		if got, e := floats.Text(math.Float64bits(f)); got != want || e != api.OK {
			t.Errorf("%f: %s, %d", f, got, e)
		}
	}
	for _, x := range samples.Spread(600) {
		whole := 1125899906842624 + x%1125899906842624
		for _, f := range []float64{float64(whole) + 0.25, float64(whole) + 0.75, float64(whole)/1024 + 0.5/4096} {
			wantText(t, math.Float64bits(f))
		}
	}
}

func wantText(t *testing.T, bits uint64) {
	t.Helper()
	text, e := modelText(bits)
	if got, err := floats.Text(bits); got != text || err != e {
		t.Errorf("Text(%x): %s, %d, not %s, %d", bits, got, err, text, e)
	}
}

func TestTextOfMany(t *testing.T) {
	for _, bits := range finites() {
		wantText(t, bits)
	}
}

func TestTextNotFinite(t *testing.T) {
	for _, bits := range slices.Concat(infinities, noNumbers) {
		if got, e := floats.Text(bits); got != "" || e != api.ErrFloatKind {
			t.Errorf("%x: %s, %d", bits, got, e)
		}
	}
}

// P2.4

func TestKey(t *testing.T) {
	for bits, want := range map[uint64]uint64{
		0: 1 << 63, sign: 1 << 63, 1: 1<<63 + 1, sign + 1: 1<<63 - 1, greatest: 0xffefffffffffffff, infinity: 0xfff0000000000000, sign + greatest: 0x0010000000000001, sign + infinity: 0x0010000000000000,
		math.Float64bits(1): 0xbff0000000000000, math.Float64bits(-1): 0x4010000000000000,
	} {
		if got, e := floats.Key(bits); got != want || e != api.OK {
			t.Errorf("%x: %x, %d", bits, got, e)
		}
	}
	for _, bits := range slices.Concat(finites(), infinities) {
		want := 1<<63 + bits
		if bits >= sign {
			want = 1<<63 - (bits - sign)
		}
		if got, e := floats.Key(bits); got != want || e != api.OK {
			t.Errorf("%x: %x, %d", bits, got, e)
		}
	}
}

func TestKeyOfNoNumber(t *testing.T) {
	for _, bits := range noNumbers {
		if got, e := floats.Key(bits); got != 0 || e != api.ErrFloatKind {
			t.Errorf("%x: %x, %d", bits, got, e)
		}
	}
}

func TestFromKey(t *testing.T) {
	for key, want := range map[uint64]uint64{
		1 << 63: 0, 1<<63 + 1: 1, 1<<63 - 1: sign + 1, 1<<63 + infinity: infinity, 1<<63 - infinity: sign + infinity, 1<<63 + infinity - 1: greatest, 1<<63 - infinity + 1: sign + greatest,
	} {
		if got, e := floats.FromKey(key); got != want || e != api.OK {
			t.Errorf("%x: %x, %d", key, got, e)
		}
	}
}

func TestFromKeyOfNone(t *testing.T) {
	for _, key := range []uint64{0, 1, 2, 1 << 51, 1<<63 - infinity - 1, 1<<63 - infinity - 2, 1<<63 + infinity + 1, 1<<63 + infinity + 2, 1<<63 + infinity + 1<<51, math.MaxUint64 - 1, math.MaxUint64} {
		if got, e := floats.FromKey(key); got != 0 || e != api.ErrFloatKind {
			t.Errorf("%x: %x, %d", key, got, e)
		}
	}
}

func TestFromKeyOfKey(t *testing.T) {
	for _, bits := range slices.Concat(finites(), infinities) {
		key, _ := floats.Key(bits)
		want := bits
		if bits == sign {
			want = 0
		}
		if got, e := floats.FromKey(key); got != want || e != api.OK {
			t.Errorf("%x: %x, %d", bits, got, e)
		}
	}
	for _, key := range samples.Spread(3000) {
		bits, e := floats.FromKey(key)
		if e != api.OK {
			continue
		}
		if got, e := floats.Key(bits); got != key || e != api.OK {
			t.Errorf("%x: %x, %d", key, got, e)
		}
	}
}

// P2.5

func TestParseOfText(t *testing.T) {
	l := finites()
	for _, x := range samples.Spread(30000) {
		if x%sign < infinity {
			l = append(l, x)
		}
		l = append(l, x%leastFull)
	}
	for _, bits := range l {
		text, e := floats.Text(bits)
		if got, err := floats.Parse(text); got != bits || e != api.OK || err != api.OK {
			t.Fatalf("%x: %s, %x, %d, %d", bits, text, got, e, err)
		}
	}
}

func TestKeysStandInTheOrder(t *testing.T) {
	l := slices.Concat(finites(), infinities)
	for _, a := range l {
		x, _ := floats.Key(a)
		for _, b := range l {
			y, _ := floats.Key(b)
			if c, _ := floats.Cmp(a, b); x < y != (c < 0) || x == y != (c == 0) {
				t.Fatalf("%x, %x: %d, %x, %x", a, b, c, x, y)
			}
		}
	}
}

func TestTextsThatSayNoMore(t *testing.T) {
	var texts []string
	for _, size := range slices.Concat(edgeSizes(), samples.Spread(100)) {
		size %= greatest
		for _, s := range textsAround(halfway(size)) {
			texts = append(texts, s, "-"+s)
		}
	}
	said := func(s string) *big.Rat {
		amount, below, _ := modelRead(s)
		if below {
			amount.Neg(amount)
		}
		return amount
	}
	slices.SortFunc(texts, func(a, b string) int { return said(a).Cmp(said(b)) })
	for i := range len(texts) - 1 {
		a, _ := floats.Parse(texts[i])
		b, _ := floats.Parse(texts[i+1])
		if c, ok := floats.Cmp(a, b); c > 0 || !ok {
			t.Errorf("%s, %s: %d, %v", texts[i], texts[i+1], c, ok)
		}
	}
}
