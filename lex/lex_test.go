package lex_test

import (
	"fmt"
	"slices"
	"strings"
	"testing"

	"rhizome/api"
	"rhizome/lex"
	"rhizome/samples"
)

// kinds are the letters by which tokens are told in the tests.
const kinds = "pnift"

// told is tokens as a row: each its kind's letter and its text, without the places.
func told(l []api.Token) string {
	var row []string
	for _, x := range l {
		row = append(row, kinds[x.Kind:x.Kind+1]+x.Text)
	}
	return strings.Join(row, "|")
}

// isAsModel holds Tokens of s against the model.
func isAsModel(t *testing.T, s string) ([]api.Token, int, api.Errno) {
	t.Helper()
	l, at, e := lex.Tokens(s)
	want, place, f := modelTokens(s)
	if !slices.Equal(l, want) || at != place || e != f {
		t.Errorf("%.200q: %.200v, %d, %d, not %.200v, %d, %d", s, l, at, e, want, place, f)
	}
	return l, at, e
}

// is holds Tokens of s against a row of what is told.
func is(t *testing.T, s, want string) {
	t.Helper()
	if l, at, e := isAsModel(t, s); told(l) != want || at != 0 || e != api.OK {
		t.Errorf("%.200q: %.200q, %d, %d, not %.200q", s, told(l), at, e, want)
	}
}

// isWrong holds Tokens of s against an error and its place.
func isWrong(t *testing.T, s string, place int, want api.Errno) {
	t.Helper()
	if l, at, e := isAsModel(t, s); len(l) > 0 || at != place || e != want {
		t.Errorf("%.200q: %.200q, %d, %d, not %d, %d", s, told(l), at, e, place, want)
	}
}

// P5.1

func TestTokensExamples(t *testing.T) {
	is(t, `{a(b:-1.5e3,c:"\u0041")}#x`, "p{|na|p(|nb|p:|f-1.5e3|nc|p:|tA|p)|p}")
	isWrong(t, "0123", 0, api.ErrLexNumber)
	isWrong(t, "1.", 0, api.ErrLexNumber)
	isWrong(t, "1a", 0, api.ErrLexNumber)
	isWrong(t, "..", 0, api.ErrLexChar)
	isWrong(t, `"a`, 0, api.ErrLexText)
	isWrong(t, "%", 0, api.ErrLexChar)
	isWrong(t, `  "\x"`, 2, api.ErrLexText)
}

func TestTokensPlaces(t *testing.T) {
	s := "\ufeff{ a1 ... -1.5\n\"\\u0041\"\"\"\"b\\\"\"\"\"\"\"9#"
	l, at, e := lex.Tokens(s)
	want := []api.Token{{Kind: api.TokPunct, Text: "{", At: 3, End: 4}, {Kind: api.TokName, Text: "a1", At: 5, End: 7}, {Kind: api.TokPunct, Text: "...", At: 8, End: 11}, {Kind: api.TokFloat, Text: "-1.5", At: 12, End: 16}, {Kind: api.TokText, Text: "A", At: 17, End: 25}, {Kind: api.TokText, Text: `b"""`, At: 25, End: 36}, {Kind: api.TokInt, Text: "9", At: 36, End: 37}}
	if !slices.Equal(l, want) || at != 0 || e != api.OK {
		t.Errorf("%q: %v, %d, %d", s, l, at, e)
	}
}

func TestTokensLong(t *testing.T) {
	for piece, want := range map[string]api.Errno{" ": 0, "a": 0, "1": 0, "\n": 0, "#": 0, "%": 50, "\xff": 50, "{": 53, ".": 53, `"`: 53, "-": 51} {
		s := strings.Repeat(piece, 16384)
		if _, _, e := isAsModel(t, s); e != want {
			t.Errorf("16384 times %q: %d, not %d", piece, e, want)
		}
		isWrong(t, s+" ", 0, api.ErrLexLong)
		isWrong(t, " "+s, 0, api.ErrLexLong)
	}
	is(t, `"`+strings.Repeat("a", 16382)+`"`, "t"+strings.Repeat("a", 16382))
	isWrong(t, `"`+strings.Repeat("a", 16383)+`"`, 0, api.ErrLexLong)
	is(t, strings.Repeat(" ", 16383)+"a", "na")
	isWrong(t, "%"+strings.Repeat("\xff", 1<<20), 0, api.ErrLexLong)
}

func TestTokensMany(t *testing.T) {
	for _, piece := range []string{"{", "a ", "1,", `"" `, "...", "a#b\n"} {
		s := strings.Repeat(piece, 2048)
		if l, _, e := isAsModel(t, s); len(l) != 2048 || e != api.OK {
			t.Errorf("2048 times %q: %d, %d", piece, len(l), e)
		}
		if l, _, e := isAsModel(t, s+" # é\n,\ufeff"); len(l) != 2048 || e != api.OK {
			t.Errorf("2048 times %q and what is ignored: %d, %d", piece, len(l), e)
		}
		// One too many is not read, so nothing in it is wrong.
		for _, more := range []string{"a", "{", "%", "\xff", "1.", "01", `"`, `"\x"`, `"""`, "..", "a %"} {
			isWrong(t, s+" "+more, len(s)+1, api.ErrLexMany)
			isWrong(t, s+"#\r"+more, len(s)+2, api.ErrLexMany)
		}
		// But what is wrong in a comment comes ahead of it.
		isWrong(t, s+"#\x01", len(s)+1, api.ErrLexChar)
		isWrong(t, s+" # \xff\na", len(s)+3, api.ErrLexChar)
	}
	isWrong(t, strings.Repeat("{", 2047)+"%", 2047, api.ErrLexChar)
	isWrong(t, strings.Repeat("a ", 2047)+"1.", 4094, api.ErrLexNumber)
}

func TestTokensIgnored(t *testing.T) {
	for _, s := range []string{
		"", "\ufeff", "\ufeff\ufeff", "\t", " ", "\n", "\r", "\r\n", ",", ",,,", "#", "#a", "#a\n", "#a\r", "#a\r\n", "##", "# #\n#", "#\n\n#", "#\t\"'%\\", "#é€\uffff\n", "#\ufeff", "#\u007f\u0080\u009f", "#\ufffd", ", \t\n\r\ufeff#,", "#...",
	} {
		is(t, s, "")
		if strings.LastIndexAny(s, "#") > strings.LastIndexAny(s, "\n\r") {
			is(t, "a"+s+"b", "na")
			s += "\n"
		}
		is(t, s+"a", "na")
		is(t, "{"+s+"a"+s+"}", "p{|na|p}")
	}
	is(t, "a#b\nc", "na|nc")
	is(t, "a#b\rc", "na|nc")
	is(t, "a#b\r\nc", "na|nc")
	is(t, "a#b\n#c\rd#", "na|nd")
	is(t, "a\ufeffb", "na|nb")
	is(t, "a,b", "na|nb")
	is(t, "1,2 3", "i1|i2|i3")
}

func TestTokensCommentsWrong(t *testing.T) {
	for _, c := range []string{"\x00", "\x01", "\x08", "\x0b", "\x0c", "\x0e", "\x1f", "\x80", "\xff", "\xc3", "\xc3(", "\xe2\x82", "\xed\xa0\x80", "\xc0\x80", "\xef\xbb", "\xf0\x90\x80\x80", "\U00010000", "\U0010ffff", "😀"} {
		isWrong(t, "#"+c, 1, api.ErrLexChar)
		isWrong(t, "#a"+c+"\n", 2, api.ErrLexChar)
		isWrong(t, "a #é"+c+"\n\xff", 5, api.ErrLexChar)
		isWrong(t, "#\n#"+c, 3, api.ErrLexChar)
		isWrong(t, "#\n"+c, 2, api.ErrLexChar)
	}
}

func TestTokensChars(t *testing.T) {
	for n := range 0x10400 {
		c := modelSpell(n)
		if n > 0xffff {
			c = string(rune(n))
		}
		switch {
		case strings.Contains("\t\n\r ,#\ufeff", c):
			is(t, c, "")
		case n < 128 && strings.Contains("!$&():=@[]{|}", c):
			is(t, c, "p"+c)
		case n == '_' || n >= 'a' && n <= 'z' || n >= 'A' && n <= 'Z':
			is(t, c, "n"+c)
		case n >= '0' && n <= '9':
			is(t, c, "i"+c)
		case n == '-':
			isWrong(t, c, 0, api.ErrLexNumber)
		case n == '"':
			isWrong(t, c, 0, api.ErrLexText)
		default:
			isWrong(t, c, 0, api.ErrLexChar)
		}
	}
	for n := 128; n < 256; n++ {
		c := string([]byte{byte(n)})
		isWrong(t, c, 0, api.ErrLexChar)
		isWrong(t, "a "+c, 2, api.ErrLexChar)
		isWrong(t, "a"+c, 1, api.ErrLexChar)
	}
	for _, c := range []string{"%", "'", "*", "+", "/", ";", "<", ">", "?", "\\", "^", "`", "~", "\x00", "\x0b", "\x7f", "é", "\u00a0", "\u2028", "\ufffe", "\ufffd", "\xef\xbb", "\xef\xbb\xbe", "😀", "\xed\xa0\x80"} {
		isWrong(t, "a"+c, 1, api.ErrLexChar)
		isWrong(t, "{a "+c+"}", 3, api.ErrLexChar)
		isWrong(t, "\ufeff"+c, 3, api.ErrLexChar)
		isWrong(t, "5"+c, 1, api.ErrLexChar)
	}
}

func TestTokensDots(t *testing.T) {
	is(t, "...", "p...")
	is(t, "......", "p...|p...")
	is(t, "...a...", "p...|na|p...")
	is(t, "...1", "p...|i1")
	isWrong(t, ".", 0, api.ErrLexChar)
	isWrong(t, "..", 0, api.ErrLexChar)
	isWrong(t, "....", 3, api.ErrLexChar)
	isWrong(t, ".....", 3, api.ErrLexChar)
	isWrong(t, ". . .", 0, api.ErrLexChar)
	isWrong(t, ".. .", 0, api.ErrLexChar)
	isWrong(t, "a..b", 1, api.ErrLexChar)
	isWrong(t, ".5", 0, api.ErrLexChar)
}

func TestTokensNames(t *testing.T) {
	for _, s := range []string{"a", "_", "__", "a1", "_1", "azAZ09_", "A", "Z", "z", "query", "null", "true", "on", "e1", "E", "u0041", strings.Repeat("x", 1000)} {
		is(t, s, "n"+s)
		is(t, s+"-1", "n"+s+"|i-1")
		is(t, s+`"b"`, "n"+s+"|tb")
		is(t, s+"!", "n"+s+"|p!")
	}
	is(t, "a1 1.5", "na1|f1.5")
	isWrong(t, "1a", 0, api.ErrLexNumber)
	isWrong(t, "0_", 0, api.ErrLexNumber)
	isWrong(t, "aé", 1, api.ErrLexChar)
	isWrong(t, "a.b", 1, api.ErrLexChar)
	isWrong(t, "a\\u0041", 1, api.ErrLexChar)
}

func TestTokensNumbers(t *testing.T) {
	for _, s := range []string{"0", "-0", "1", "9", "10", "-10", "1234567890", strings.Repeat("9", 1000)} {
		is(t, s, "i"+s)
		is(t, s+"-1", "i"+s+"|i-1")
		is(t, s+`"a"`, "i"+s+"|ta")
		is(t, s+"{", "i"+s+"|p{")
		is(t, s+"#a", "i"+s)
		isWrong(t, s+"%", len(s), api.ErrLexChar)
		isWrong(t, s+"é", len(s), api.ErrLexChar)
		isWrong(t, s+"\xff", len(s), api.ErrLexChar)
		isWrong(t, s+"-", len(s), api.ErrLexNumber)
		isWrong(t, s+"+", len(s), api.ErrLexChar)
	}
	for _, s := range []string{"0.0", "-0.0", "1.5", "1.50", "0.00", "10.01", "0e0", "0E0", "1e1", "1E1", "1e+1", "1e-1", "1E+01", "1e00", "1.5e3", "-1.5E-3", "1e999999"} {
		is(t, s, "f"+s)
		is(t, s+"-1", "f"+s+"|i-1")
		is(t, s+",1", "f"+s+"|i1")
	}
}

func TestTokensNumbersWrong(t *testing.T) {
	for _, s := range []string{
		"00", "01", "-00", "-01", "0123", "00.5", "01e1", "-", "--", "--1", "-a", "-_", "-.5", "-e1", "-+1", "- 1", "-\"", "-é", "-\xff", "1.", "1.a", "1.e", "1.e1", "1..", "1...", "1. 5", "1.-5", "1._", "0.", "0.e1", "-0.", "1e", "1E", "1ea", "1e.", "1e.5", "1e ", "1e+", "1e-", "1e+-1", "1e++1", "1e+ 1", "1e+a", "1e+.5", "1ee1", "1.5e", "1.5e+",
		"1a", "0x10", "1_", "1_0", "1e1a", "1e1e1", "1e1.", "1e1.5", "1e1_", "1.5.", "1.5.5", "1.5a", "1.5_", "1.5e1.", "0a", "0_", "0e1x", "0b1", "1z", "1A", "1Z", "1e1f", "-0x", "1e1...", "1.5...",
	} {
		isWrong(t, s, 0, api.ErrLexNumber)
		isWrong(t, "a:"+s, 2, api.ErrLexNumber)
		isWrong(t, " \n"+s+" %", 2, api.ErrLexNumber)
	}
}

func TestTokensStrings(t *testing.T) {
	for s, want := range map[string]string{
		"": "", "a": "a", " a ": " a ", "\t": "\t", "#": "#", ",": ",", "{": "{", "'": "'", "/": "/", "é€\uffff": "é€\uffff", "\ufeff": "\ufeff", "\x7f": "\x7f", "\u0080": "\u0080", "\ufffd": "\ufffd",
		`\"`: "\"", `\\`: "\\", `\/`: "/", `\b`: "\x08", `\f`: "\x0c", `\n`: "\x0a", `\r`: "\x0d", `\t`: "\x09", `\"\"`: `""`, `\\\\`: `\\`, `\\\"`: `\"`, `\\n`: `\n`, `a\nb`: "a\nb", `\\u0041`: `\u0041`, `\/\/`: "//",
		`\u0000`: "\x00", `\u0001`: "\x01", `\u001f`: "\x1f", `\u0022`: "\"", `\u005c`: "\\", `\u005C`: "\\", `\u007f`: "\x7f", `\u0080`: "\u0080", `\u00e9`: "é", `\u00E9`: "é", `\u07ff`: "\u07ff", `\u0800`: "\u0800", `\uabcd`: "\uabcd", `\uAbCd`: "\uabcd", `\uABCD`: "\uabcd", `\ufeff`: "\ufeff", `\uffff`: "\uffff", `\uFFFF`: "\uffff", `\u00410`: "A0", `\u0041\u0042`: "AB", `\u000a`: "\n",
		`\ud7ff`: "\ud7ff", `\ud800`: "\xed\xa0\x80", `\uD800`: "\xed\xa0\x80", `\udbff`: "\xed\xaf\xbf", `\udc00`: "\xed\xb0\x80", `\udfff`: "\xed\xbf\xbf", `\ue000`: "\ue000", `\ud83d\ude00`: "\xed\xa0\xbd\xed\xb8\x80", `a\ud800b`: "a\xed\xa0\x80b",
	} {
		is(t, `"`+s+`"`, "t"+want)
		is(t, `{"`+s+`":1}`, "p{|t"+want+"|p:|i1|p}")
		if s != "" {
			is(t, `"`+s+`"""`, "t"+want+"|t")
			is(t, `"`+s+`""b"`, "t"+want+"|tb")
		}
	}
	is(t, `"" ""`, "t|t")
	is(t, `"a"b`, "ta|nb")
	is(t, `""a""`, "t|na|t")
}

func TestTokensEscapes(t *testing.T) {
	for n := range 0x10000 {
		for _, form := range []string{`"\u%04x"`, `"\u%04X"`, `"a\u%04x"`} {
			s := fmt.Sprintf(form, n)
			if l, at, e := lex.Tokens(s); len(l) != 1 || at != 0 || e != api.OK || l[0].Text != form[1:len(form)-len(`\u%04x"`)]+modelSpell(n) || l[0].End != len(s) {
				t.Errorf("%s: %v, %d, %d", s, l, at, e)
			}
		}
	}
	for n := range 256 {
		c := string([]byte{byte(n)})
		if !strings.Contains(`"\/bfnrtu`, c) {
			isWrong(t, `"\`+c+`"`, 0, api.ErrLexText)
		}
		if !strings.Contains("0123456789abcdefABCDEF", c) {
			for i := range 4 {
				isWrong(t, `"\u`+"0000"[:i]+c+"0000"[i+1:]+`"`, 0, api.ErrLexText)
			}
		}
	}
}

func TestTokensStringsWrong(t *testing.T) {
	for _, s := range []string{
		`"`, `"a`, `"a\"`, `"\`, `"\\\"`, `"a\`, `"\u`, `"\u0`, `"\u00`, `"\u004`, `"\u0041`, `"\u"`, `"\u0"`, `"\u00"`, `"\u004"`, `"\u004g"`, `"\u 041"`, `"\u+041"`, `"\u-041"`, `"\u0x41"`, `"\u00_1"`, `"\U0041"`, `"\u{41}"`, `"\uu0041"`, `"\u00é"`, `"\x41"`, `"\a"`, `"\v"`, `"\0"`, `"\'"`, `"\ "`, `"\é"`, `"\N"`, `"\B"`,
		"\"\n\"", "\"\r\"", "\"a\nb\"", "\"a\rb\"", "\"\r\n\"", "\"\\\n\"", "\"\\\r\"", "\"a\n", "\"\x00\"", "\"\x01\"", "\"\x08\"", "\"\x0b\"", "\"\x0c\"", "\"\x1f\"", "\"a\x01", "\"\x80\"", "\"\xff\"", "\"\xc3\"", "\"\xc3\\n\"", "\"\xed\xa0\x80\"", "\"\xf0\x90\x80\x80\"", "\"😀\"", "\"\U0010ffff\"", "\"\xe2\x82\"", "\"\\\xff\"", "\"\\\x00\"", "\"a\xff\\x",
	} {
		isWrong(t, s, 0, api.ErrLexText)
		isWrong(t, "{a "+s, 3, api.ErrLexText)
		isWrong(t, `"b"`+s, 3, api.ErrLexText)
		isWrong(t, s+" %", 0, api.ErrLexText)
	}
}

func TestTokensQuotes(t *testing.T) {
	isWrong(t, `"`, 0, api.ErrLexText)
	is(t, `""`, "t")
	isWrong(t, `"""`, 0, api.ErrLexText)
	isWrong(t, `""""`, 0, api.ErrLexText)
	isWrong(t, `"""""`, 0, api.ErrLexText)
	is(t, `""""""`, "t")
	isWrong(t, `"""""""`, 6, api.ErrLexText)
	is(t, `""""""""`, "t|t")
	isWrong(t, `"""""""""`, 6, api.ErrLexText)
	is(t, `""""""""""""`, "t|t")
	is(t, `"""a""""b"`, "ta|tb")
	is(t, `"""a"""""`, "ta|t")
	is(t, `"""a""b"""`, `ta""b`)
	is(t, `"""a"b"""`, `ta"b`)
	is(t, `""""a"""`, `t"a`)
	is(t, `"""""a"""`, `t""a`)
	is(t, `""" """`, "t")
	isWrong(t, `"a""""""`, 3, api.ErrLexText)
	is(t, `"a"""""""`, "ta|t")
}

func TestTokensBlocks(t *testing.T) {
	for s, want := range map[string]string{
		"": "", "a": "a", " a": " a", "\n a": "a", "\n  a\n   b\n  ": "a\n b", "a\rb": "a\nb", "a\r\nb": "a\nb", "a\n\nb": "a\n\nb", "\t\n\r": "", "#a\n,": "#a\n,", "é€\uffff": "é€\uffff", "\x7f": "\x7f", "\ufeff": "\ufeff",
		`\.`: `\.`, `\n`: `\n`, `\\.`: `\\.`, `\u0041`: `\u0041`, `\x`: `\x`, `\".`: `\".`, `\"".`: `\"".`, `a"b`: `a"b`, `a""b`: `a""b`, `"a`: `"a`, `""a`: `""a`,
		`\"""`: `"""`, `a\"""b`: `a"""b`, `\"""\"""`: `""""""`, `\\"""`: `\"""`, `\\\"""`: `\\"""`, `\""""a`: `""""a`, `\"""""a`: `"""""a`, `\"\"""`: `\""""`, `"\"""`: `""""`, `""\"""`: `"""""`, "\n  \\\"\"\"\n  a": "\"\"\"\na", "  \\\"\"\"": "  \"\"\"",
	} {
		is(t, `"""`+s+`"""`, "t"+want)
		is(t, `a"""`+s+`"""b`, "na|t"+want+"|nb")
		is(t, `"""`+s+`""""c"`, "t"+want+"|tc")
	}
	is(t, `"""\""""""`, `t"""`)
	isWrong(t, `"""\"""""""`, 10, api.ErrLexText)
}

func TestTokensBlocksWrong(t *testing.T) {
	for _, s := range []string{
		`"""`, `"""a`, `"""a"`, `"""a""`, `"""\"""`, `"""a\"""`, `"""\\"""`, `"""\""""`, `"""\"""""`, `"""a"b""`, `"""a" ""`, "\"\"\"a\n", "\"\"\"a\n\"\"",
		"\"\"\"\x00\"\"\"", "\"\"\"a\x01\"\"\"", "\"\"\"\x0b\"\"\"", "\"\"\"\x1f\"\"\"", "\"\"\"\x80\"\"\"", "\"\"\"\xff\"\"\"", "\"\"\"\xc3\"\"\"", "\"\"\"\xed\xa0\x80\"\"\"", "\"\"\"😀\"\"\"", "\"\"\"\U00010000\"\"\"", "\"\"\"\\\xff\"\"\"", "\"\"\"\n\n\x01\n\"\"\"", "\"\"\"\x01", "\"\"\"\xe2\x82\"\"\"",
	} {
		isWrong(t, s, 0, api.ErrLexText)
		isWrong(t, "{a "+s, 3, api.ErrLexText)
		isWrong(t, `"""b"""`+s, 7, api.ErrLexText)
	}
}

// Which of several things that are wrong decides: the first from the left, at the place where its token begins.
func TestTokensFirst(t *testing.T) {
	isWrong(t, "% 1.", 0, api.ErrLexChar)
	isWrong(t, "1. %", 0, api.ErrLexNumber)
	isWrong(t, `"\x" 1. %`, 0, api.ErrLexText)
	isWrong(t, `a "b" 1.`, 6, api.ErrLexNumber)
	isWrong(t, "#\x01\n%", 1, api.ErrLexChar)
	isWrong(t, "%#\x01", 0, api.ErrLexChar)
	isWrong(t, "1#\x01", 2, api.ErrLexChar)
	isWrong(t, "1.#\x01", 0, api.ErrLexNumber)
	isWrong(t, "\"a\x01b\n", 0, api.ErrLexText)
	isWrong(t, "\"#\x01", 0, api.ErrLexText)
	isWrong(t, "#\"\x01", 2, api.ErrLexChar)
	isWrong(t, "1\xff.", 1, api.ErrLexChar)
	isWrong(t, "1.\xff", 0, api.ErrLexNumber)
	isWrong(t, "é 1.", 0, api.ErrLexChar)
	isWrong(t, "\r\n \ufeff,%", 7, api.ErrLexChar)
	isWrong(t, strings.Repeat("a ", 8000)+"%"+strings.Repeat(" ", 400), 0, api.ErrLexLong)
	isWrong(t, strings.Repeat("a ", 8000)+"%", 4096, api.ErrLexMany)
	isWrong(t, "%"+strings.Repeat("a ", 8000), 0, api.ErrLexChar)
}

func TestTokensModelAll(t *testing.T) {
	pieces := []string{`"`, `\`, "u", "00e9", ".", "-", "0", "1", "e", "+", "a", "_", "#", "\n", "\r", " ", ",", "\ufeff", "{", "%", "\x01", "\xff", "é", "😀"}
	for s := range samples.Rows(4, pieces...) {
		isAsModel(t, s)
	}
}

func TestTokensModelNumbers(t *testing.T) {
	for s := range samples.Rows(6, "-", "0", "1", ".", "e", "+", "a", " ") {
		isAsModel(t, s)
	}
}

func TestTokensModelStrings(t *testing.T) {
	for s := range samples.Rows(7, `"`, `\`, "u", "D8a0", "\n", "b") {
		isAsModel(t, `"`+s)
	}
}

func TestTokensModelBlocks(t *testing.T) {
	for s := range samples.Rows(7, `"`, `\`, `"""`, "\n", " ", "a") {
		isAsModel(t, `"""`+s)
		isAsModel(t, `"""`+s+`"""`)
	}
}

func TestTokensModelComments(t *testing.T) {
	for s := range samples.Rows(5, "#", "\n", "\r", "\xef", "\xbb", "\xbf", "\x1f", "a", `"`) {
		isAsModel(t, s)
	}
}

// broken is a document in which each kind of token stands, with one byte that is another.
func broken(n uint64) string {
	b := []byte("\ufeffquery a($b:[Int!]!=-1.5e+3,c:0)@d{e:f(g:\"h\\n\\uD800é\") # i €\r\n...on J{k|l&m}}\"\"\"\n  n\\\"\"\"\r\n   o\n\"\"\" 10 \"\"")
	b[n%uint64(len(b))] = byte(n >> 32)
	if n>>60 < 4 {
		b[n>>16%uint64(len(b))] = byte(n >> 40)
	}
	return string(b)
}

func TestTokensModelBroken(t *testing.T) {
	seen := map[api.Errno]int{}
	for _, n := range samples.Spread(100000) {
		_, _, e := isAsModel(t, broken(n))
		seen[e]++
	}
	for _, e := range []api.Errno{api.OK, api.ErrLexChar, api.ErrLexNumber, api.ErrLexText} {
		if seen[e] < 100 {
			t.Error("too few with the error", e, seen)
		}
	}
}

// R1
func TestTokensAnyBytes(t *testing.T) {
	for n := range 300 {
		b := make([]byte, n)
		for i, x := range samples.Spread(n) {
			b[i] = byte(x >> 24)
		}
		isAsModel(t, string(b))
		isAsModel(t, `"`+string(b)+`"`)
		isAsModel(t, `"""`+string(b)+`"""`)
	}
}

// R4
func TestTokensOwned(t *testing.T) {
	const s = `{a "b" 1 2.5 """c"""}`
	first, _, _ := lex.Tokens(s)
	second, _, _ := lex.Tokens(s)
	for i := range first[:cap(first)] {
		first[:cap(first)][i] = api.Token{Kind: api.TokFloat, Text: "x", At: -1, End: -1}
	}
	third, _, _ := lex.Tokens(s)
	want, _, _ := modelTokens(s)
	if !slices.Equal(second, want) || !slices.Equal(third, want) {
		t.Error(second, third)
	}
}

// P5.2

func TestBlockExamples(t *testing.T) {
	if s := lex.Block("  a\n    b\n  c\n  "); s != "  a\n  b\nc" {
		t.Errorf("%q", s)
	}
}

func TestBlock(t *testing.T) {
	for raw, want := range map[string]string{
		"": "", " ": "", "\t": "", "\n": "", "\r": "", "\r\n": "", "\n\r": "", "\n\n \n\t\r": "", "a": "a", "  a": "  a", "a  ": "a  ", "\ta\t": "\ta\t",
		"a\nb": "a\nb", "a\rb": "a\nb", "a\r\nb": "a\nb", "a\n\rb": "a\n\nb", "a\r\rb": "a\n\nb", "a\r\r\nb": "a\n\nb", "a\r\n\nb": "a\n\nb", "a\r\n\r\nb": "a\n\nb",
		"\n  a": "a", "\n  a\n b": " a\nb", "\n a\n  b": "a\n b", "\n\ta\n b": "a\nb", "\n\t a\n  b": "a\nb", "\n  a\nb": "  a\nb", "    a\n  b": "    a\nb", " a\n  b\n    c": " a\nb\n  c", "a\n  b": "a\nb", "a\n\n  b": "a\n\nb",
		"\n\na\n\n": "a", "  \n\t\na\n \n\t": "a", "   \n  a": "a", "\n    \n  a": "a", "\n  a\n    \n  b": "a\n  \nb", "\n  a\n \n  b": "a\n\nb", "\n  a\n\n  b": "a\n\nb", "\n    a\n   \n      \n    b": "a\n\n  \nb", "a\n    \nb": "a\n    \nb", "a\n \n  ": "a", "  \n \n": "",
		"\n  a  \n  b\t": "a  \nb\t", "\n \u00a0a": "\u00a0a", "\n\u00a0 a": "\u00a0 a", "\n\va": "\va", "\u2028a": "\u2028a", "\n  \ufeffa": "\ufeffa", "\n  ,a\n  ": ",a", "\n \x00": "\x00", "\n  \xff\n    \xfe\xc3": "\xff\n  \xfe\xc3", "\xff": "\xff", "\n \xe2\n  \x82": "\xe2\n \x82", `\"""`: `\"""`, `\n`: `\n`,
		"a\n  ": "a", "a\n  \n": "a", " \na": "a", "a\n": "a", "\na": "a", "\n\n  a\n\n\n   b\n\n": "a\n\n\n b",
	} {
		if s := lex.Block(raw); s != want {
			t.Errorf("%q: %q, not %q", raw, s, want)
		}
	}
	if s := lex.Block(strings.Repeat("\n", 1<<20) + " a" + strings.Repeat("\r\n ", 1<<20)); s != "a" {
		t.Errorf("%.20q", s)
	}
}

func TestBlockModel(t *testing.T) {
	for s := range samples.Rows(7, "\n", "\r", " ", "\t", "a") {
		if got, want := lex.Block(s), modelBlock(s); got != want {
			t.Errorf("%q: %q, not %q", s, got, want)
		}
	}
	for s := range samples.Rows(6, "\n", "\r\n", "  ", "    ", "\xff", "b ") {
		if got, want := lex.Block(s), modelBlock(s); got != want {
			t.Errorf("%q: %q, not %q", s, got, want)
		}
	}
}

// P5.3

func TestQuoteExamples(t *testing.T) {
	if s := lex.Quote("a\"\n"); s != `"a\"\u000a"` {
		t.Error(s)
	}
}

func TestQuote(t *testing.T) {
	for s, want := range map[string]string{
		"": "", "a": "a", `"`: `\"`, `\`: `\\`, `\"`: `\\\"`, `""`: `\"\"`, "/": "/", "'": "'", "\n": `\u000a`, "\r\n": `\u000d\u000a`, "\t": `\u0009`, "\x00": `\u0000`, "\x1f": `\u001f`, " ": " ", "~": "~", "\x7f": `\u007f`, "\u0080": "\u0080", "é€\uffff😀": "é€\uffff😀", "\ufeff": "\ufeff", `\u0041`: `\\u0041`,
		"\xed\xa0\x80": `\ud800`, "\xed\xbf\xbf": `\udfff`, "\xed\xaf\xbf": `\udbff`, "\xed\xb0\x80": `\udc00`, "\xed\xa0\xbd\xed\xb8\x80": `\ud83d\ude00`, "a\xed\xa0\x80b": `a\ud800b`, "\ud7ff\ue000": "\ud7ff\ue000",
		"\xed\xa0": "\xed\xa0", "\xed": "\xed", "\xa0\x80": "\xa0\x80", "\xed\xa0\"": "\xed\xa0\\\"", "\xed\n\x80": "\xed\\u000a\x80", "\xed\xa0a": "\xed\xa0a", "\xed\xa0\xc0": "\xed\xa0\xc0", "\xed\x9f\xbf": "\xed\x9f\xbf", "\xed\xc0\x80": "\xed\xc0\x80", "\xee\xa0\x80": "\xee\xa0\x80", "\xec\xa0\x80": "\xec\xa0\x80", "\xed\xed\xa0\x80": "\xed\\ud800", "\xed\xa0\xed\xa0\x80": "\xed\xa0\\ud800", "\xed\xa0\x80\x80": "\\ud800\x80",
		"\x80": "\x80", "\xff": "\xff", "\xc0\x80": "\xc0\x80", "\xf4\x90\x80\x80": "\xf4\x90\x80\x80", "\xe2\x82": "\xe2\x82", "\xec\xe0\x80": "\xec\xe0\x80", "\xed\xa0\x7f": "\xed\xa0\\u007f", "\xee\x60\x80": "\xee\x60\x80",
	} {
		if got := lex.Quote(s); got != `"`+want+`"` {
			t.Errorf("%q: %q, not %q", s, got, want)
		}
	}
	if s := lex.Quote(strings.Repeat("\x01", 1<<20)); s != `"`+strings.Repeat(`\u0001`, 1<<20)+`"` {
		t.Errorf("%.20q", s)
	}
}

func TestQuoteModel(t *testing.T) {
	for n := range 1 << 16 {
		for _, s := range []string{string([]byte{byte(n >> 8), byte(n)}), string([]byte{0xed, byte(n >> 8), byte(n)}), modelSpell(n)} {
			if got, want := lex.Quote(s), modelQuote(s); got != want {
				t.Errorf("%q: %q, not %q", s, got, want)
			}
		}
	}
	for s := range samples.Rows(6, "\xed", "\xa0", "\xbf", "\x80", "\xec", "\\", "\x1f") {
		if got, want := lex.Quote(s), modelQuote(s); got != want {
			t.Errorf("%q: %q, not %q", s, got, want)
		}
	}
}

// P5.4

// tokens are of all kinds, as they are written; none ends where another that is put right behind it would go on with it, but for names and numbers.
var tokens = []string{"{", "...", "a", "_1", "0", "-15", "1.5e3", "0e-1", `""`, `"a"`, `"\"\u0041\ud800"`, `""""""`, "\"\"\"\n  b\n\\\"\"\" c\r\n\"\"\"", `"#"`, "!", "|"}

func TestTokensApart(t *testing.T) {
	for _, n := range samples.Spread(50000) {
		s := broken(n)
		l, _, _ := lex.Tokens(s)
		ahead := 0
		for _, x := range l {
			if x.At < ahead || x.End <= x.At || x.End > len(s) {
				t.Errorf("%q: %v", s, l)
			}
			ahead = x.End
			alone, at, e := lex.Tokens(s[x.At:x.End])
			if want := (api.Token{Kind: x.Kind, Text: x.Text, End: x.End - x.At}); len(alone) != 1 || alone[0] != want || at != 0 || e != api.OK {
				t.Errorf("%q: %v, %d, %d, not %v", s[x.At:x.End], alone, at, e, want)
			}
		}
	}
}

func TestTokensIgnoredBetween(t *testing.T) {
	ignored := []string{" ", "\t", "\n", "\r", "\r\n", ",", "\ufeff", "#\n", "#a \" %\r", "# é\r\n", " #\n#\n,"}
	for i, a := range tokens {
		for j, b := range tokens {
			plain, _, e := lex.Tokens(a + " " + b)
			if len(plain) != 2 || e != api.OK {
				t.Fatalf("%s %s: %v, %d", a, b, plain, e)
			}
			for _, x := range ignored {
				ahead, behind := ignored[i%len(ignored)], ignored[j%len(ignored)]
				s := ahead + a + x + b + behind
				l, at, e := isAsModel(t, s)
				first := api.Token{Kind: plain[0].Kind, Text: plain[0].Text, At: len(ahead), End: len(ahead + a)}
				second := api.Token{Kind: plain[1].Kind, Text: plain[1].Text, At: len(ahead + a + x), End: len(ahead + a + x + b)}
				if !slices.Equal(l, []api.Token{first, second}) || at != 0 || e != api.OK {
					t.Errorf("%q: %v, %d, %d", s, l, at, e)
				}
			}
		}
	}
}

func TestQuoteAndTokens(t *testing.T) {
	says := func(s string) {
		q := lex.Quote(s)
		if l, at, e := lex.Tokens(q); !slices.Equal(l, []api.Token{{Kind: api.TokText, Text: s, End: len(q)}}) || at != 0 || e != api.OK {
			t.Errorf("%q: %s, %v, %d, %d", s, q, l, at, e)
		}
	}
	for n := range 0x10000 {
		says(modelSpell(n))
		says("a" + modelSpell(n) + "\"" + modelSpell(n^0x800))
	}
	for s := range samples.Rows(5, "\"", "\\", "\n", "u0041", "\xed\xa0\x80", "é", "\r", "#", "\x7f") {
		says(s)
	}
}
