package runes_test

import (
	"math"
	"slices"
	"strings"
	"testing"

	"rhizome/api"
	"rhizome/runes"
)

// samples are bytes of several kinds, texts and not.
func samples() []string {
	l := rows([]byte{10, 13, 'a', 195, 169, 255}, 3)
	for _, n := range edgeCodes {
		s := modelBytes(n)
		l = append(l, s, "a"+s, s+"\r\n"+s, s[:len(s)-1], s[1:], s+"\x80", "\xf0"+s)
	}
	return append(l, "\xc0\x80", "\xed\xa0\x80", "\xed\xbf\xbf", "\xf4\x90\x80\x80", "\xe0\x9f\xbf", "\xf0\x8f\xbf\xbf", "\xf8\x88\x80\x80\x80", "\xe2\x82\xac\xe2\x82")
}

// P1.1

func TestRuneOfEachCharacter(t *testing.T) {
	for n := range 1114112 {
		if !modelCharacter(n) {
			continue
		}
		s := modelBytes(n)
		if code, size := runes.Rune(s, 0); code != n || size != len(s) {
			t.Fatalf("%d: %d, %d", n, code, size)
		}
		if code, size := runes.Rune("\xe2"+s+"\x80", 1); code != n || size != len(s) {
			t.Fatalf("%d among others: %d, %d", n, code, size)
		}
	}
}

func TestRuneWhereNoneBegins(t *testing.T) {
	for _, s := range []string{"\x80", "\xbf", "\xff", "\xc0\x80", "\xc1\xbf", "\xc3", "\xc3a", "\xe0\x9f\xbf", "\xe2\x82", "\xe2\x82a", "\xed\xa0\x80", "\xed\xbf\xbf", "\xf0\x8f\xbf\xbf", "\xf0\x90\x80", "\xf4\x90\x80\x80", "\xf5\x80\x80\x80", "\xef\xbf"} {
		if code, size := runes.Rune(s, 0); code != 0 || size != 0 {
			t.Errorf("%q: %d, %d", s, code, size)
		}
	}
}

func TestRuneWithinCharacter(t *testing.T) {
	for _, n := range edgeCodes {
		s := modelBytes(n)
		for at := 1; at < len(s); at++ {
			if code, size := runes.Rune(s, at); code != 0 || size != 0 {
				t.Errorf("%d at %d: %d, %d", n, at, code, size)
			}
		}
	}
}

func TestRuneOutside(t *testing.T) {
	for _, s := range []string{"", "a", "\xc3\xa9", "\x00"} {
		for _, at := range []int{-1, -2, math.MinInt, len(s), len(s) + 1, math.MaxInt} {
			if code, size := runes.Rune(s, at); code != 0 || size != 0 {
				t.Errorf("%q at %d: %d, %d", s, at, code, size)
			}
		}
	}
	if code, size := runes.Rune("\x00", 0); code != 0 || size != 1 {
		t.Errorf("the character 0: %d, %d", code, size)
	}
}

func TestRuneOfAllEdgeBytes(t *testing.T) {
	for _, s := range rows(edgeBytes, 4) {
		n, length := modelRune(s, 0)
		if code, size := runes.Rune(s, 0); code != n || size != length {
			t.Fatalf("%q: %d, %d, not %d, %d", s, code, size, n, length)
		}
	}
}

// P1.2

func TestPutEachCharacter(t *testing.T) {
	for n := -70000; n < 1200000; n++ {
		s, e := runes.Put(n)
		if modelCharacter(n) && (s != modelBytes(n) || e != api.OK) || !modelCharacter(n) && (s != "" || e != api.ErrRunesText) {
			t.Fatalf("%d: %q, %d", n, s, e)
		}
	}
}

func TestPutWhatIsNone(t *testing.T) {
	for _, n := range wrongCodes {
		if s, e := runes.Put(n); s != "" || e != api.ErrRunesText {
			t.Errorf("%d: %q, %d", n, s, e)
		}
	}
	if s, e := runes.Put(8364); s != "\xe2\x82\xac" || e != api.OK {
		t.Errorf("8364: %q, %d", s, e)
	}
}

func TestValid(t *testing.T) {
	for _, s := range []string{"", "a", "\x00", "\xc3\xa9", "\xef\xbf\xbd", "a\xef\xbf\xbdb", "\xf4\x8f\xbf\xbf", "\xed\x9f\xbf\xee\x80\x80"} {
		if !runes.Valid(s) {
			t.Errorf("%q is a text", s)
		}
	}
	for _, s := range []string{"\xc0\x80", "a\xc3", "\xc3a", "\x80a", "a\xff", "\xed\xa0\x80", "\xf4\x90\x80\x80", "\xef\xbf\xbd\xef\xbf"} {
		if runes.Valid(s) {
			t.Errorf("%q is no text", s)
		}
	}
}

func TestValidAndPointsOfAllEdgeBytes(t *testing.T) {
	for _, s := range append(rows(edgeBytes, 3), samples()...) {
		want, text := modelPoints(s)
		l, ok := runes.Points(s)
		if ok != text || !slices.Equal(l, want) || runes.Valid(s) != text {
			t.Fatalf("%q: %v, %v, not %v, %v", s, l, ok, want, text)
		}
	}
}

func TestPointsOfNoText(t *testing.T) {
	for _, s := range []string{"\xff", "abc\xff", "\xffabc", "ab\xe2\x82", "\xed\xa0\x80", "\xef\xbf\xbd\xbd"} {
		if l, ok := runes.Points(s); ok || len(l) != 0 {
			t.Errorf("%q: %v, %v", s, l, ok)
		}
	}
	if l, ok := runes.Points(""); !ok || len(l) != 0 {
		t.Errorf("nothing: %v, %v", l, ok)
	}
}

func TestPointsAreNewMemory(t *testing.T) {
	one, _ := runes.Points("abc")
	one[0] = 7
	for i := range one[:cap(one)] {
		one[:cap(one)][i] = 7
	}
	if two, ok := runes.Points("abc"); !ok || !slices.Equal(two, []int{97, 98, 99}) {
		t.Error(two, ok)
	}
}

// P1.3

func TestSourceOfEachCharacter(t *testing.T) {
	for n := range 1114112 {
		if !modelCharacter(n) {
			continue
		}
		s := "a\xc3\xa9" + modelBytes(n) + "b"
		at, e := runes.Source(s)
		source := n == 9 || n == 10 || n == 13 || n >= 32 && n <= 65535
		if source && (at != 0 || e != api.OK) || !source && (at != 3 || e != api.ErrRunesText) {
			t.Fatalf("%d: %d, %d", n, at, e)
		}
	}
}

func TestSourceTellsTheFirst(t *testing.T) {
	for _, x := range []struct {
		s    string
		want int
	}{{"a\x01", 1}, {"\xf0\x90\x80\x80", 0}, {"\x01\x02", 0}, {"ab\xff\x01", 2}, {"\xe2\x82\xac\xe2\x82", 3}, {"\xe2\x82\xac\x80", 3}, {"\xed\xa0\x80", 0}, {"\xff", 0}, {"\x00", 0}, {"\n\x0b", 1}, {"a\xef\xbf\xbd\xef", 4}} {
		if at, e := runes.Source(x.s); at != x.want || e != api.ErrRunesText {
			t.Errorf("%q: %d, %d, not %d", x.s, at, e, x.want)
		}
	}
	for _, s := range []string{"", "a", "\t\n\r ~\x7f", "\xef\xbf\xbd\xef\xbb\xbf\xef\xbf\xbf"} {
		if at, e := runes.Source(s); at != 0 || e != api.OK {
			t.Errorf("%q: %d, %d", s, at, e)
		}
	}
}

func TestSourceOfAllEdgeBytes(t *testing.T) {
	for _, s := range append(rows(edgeBytes, 3), samples()...) {
		want, ok := modelSource(s)
		if at, e := runes.Source(s); at != want || (e == api.OK) != ok || !ok && e != api.ErrRunesText {
			t.Fatalf("%q: %d, %d, not %d, %v", s, at, e, want, ok)
		}
	}
}

// P1.4

func TestPlaces(t *testing.T) {
	for _, x := range []struct {
		s    string
		want [][2]int // of each place from 0 on
	}{
		{"", [][2]int{{1, 1}}},
		{"ab\r\nc", [][2]int{{1, 1}, {1, 2}, {1, 3}, {1, 4}, {2, 1}, {2, 2}}},
		{"a\rb\nc", [][2]int{{1, 1}, {1, 2}, {2, 1}, {2, 2}, {3, 1}, {3, 2}}},
		{"\r\r\n\n", [][2]int{{1, 1}, {2, 1}, {2, 2}, {3, 1}, {4, 1}}},
		{"\n\r", [][2]int{{1, 1}, {2, 1}, {3, 1}}},
		{"a\r", [][2]int{{1, 1}, {1, 2}, {2, 1}}},
		{"\xe2\x82\xacx", [][2]int{{1, 1}, {1, 1}, {1, 1}, {1, 2}, {1, 3}}},
		{"\xe2\x82\nx", [][2]int{{1, 1}, {1, 2}, {1, 3}, {2, 1}, {2, 2}}},
		{"\xf0\x90\x80\x80\xef\xbf\xbd\xff", [][2]int{{1, 1}, {1, 1}, {1, 1}, {1, 1}, {1, 2}, {1, 2}, {1, 2}, {1, 3}, {1, 4}}},
		{"\xc2\x85\xe2\x80\xa8\x0b\x0c", [][2]int{{1, 1}, {1, 1}, {1, 2}, {1, 2}, {1, 2}, {1, 3}, {1, 4}, {1, 5}}},
	} {
		for at, want := range x.want {
			if line, column := runes.Place(x.s, at); line != want[0] || column != want[1] {
				t.Errorf("%q at %d: %d, %d, not %v", x.s, at, line, column, want)
			}
		}
	}
}

func TestPlaceOutside(t *testing.T) {
	for _, s := range samples() {
		for _, at := range []int{-1, -7, math.MinInt} {
			if line, column := runes.Place(s, at); line != 1 || column != 1 {
				t.Errorf("%q at %d: %d, %d", s, at, line, column)
			}
		}
		l, c := runes.Place(s, len(s))
		for _, at := range []int{len(s) + 1, len(s) + 9, math.MaxInt} {
			if line, column := runes.Place(s, at); line != l || column != c {
				t.Errorf("%q at %d: %d, %d, not %d, %d", s, at, line, column, l, c)
			}
		}
	}
}

func TestPlaceOfAllRows(t *testing.T) {
	l := rows([]byte{10, 13, 'a', 128, 195, 169, 226, 130, 240, 144, 255}, 4)
	for _, s := range slices.Concat(l, rows([]byte{10, 13, 'a'}, 7), samples()) {
		for at := -1; at <= len(s)+1; at++ {
			a, b := modelPlace(s, at)
			if line, column := runes.Place(s, at); line != a || column != b {
				t.Fatalf("%q at %d: %d, %d, not %d, %d", s, at, line, column, a, b)
			}
		}
	}
}

func TestPlaceOfLongText(t *testing.T) {
	s := strings.Repeat("\xc3\xa9\r\n", 20000) + "end"
	if line, column := runes.Place(s, len(s)); line != 20001 || column != 4 {
		t.Error(line, column)
	}
}

// P1.5

func TestPointsOfPutCharacters(t *testing.T) {
	for _, a := range edgeCodes {
		for _, b := range edgeCodes {
			for _, c := range edgeCodes {
				l := []int{a, b, c}
				var s string
				for _, n := range l {
					one, _ := runes.Put(n)
					s += one
				}
				if got, ok := runes.Points(s); !ok || !slices.Equal(got, l) {
					t.Fatalf("%v: %v, %v", l, got, ok)
				}
			}
		}
	}
}

func TestTextAndAnyBytesBehindIt(t *testing.T) {
	for _, s := range samples() {
		if !runes.Valid(s) {
			continue
		}
		for _, more := range samples() {
			both := s + more
			if runes.Valid(both) != runes.Valid(more) {
				t.Fatalf("%q and %q: %v", s, more, runes.Valid(both))
			}
			for at := range len(s) {
				code, size := runes.Rune(s, at)
				if c, n := runes.Rune(both, at); c != code || n != size {
					t.Fatalf("%q and %q at %d: %d, %d, not %d, %d", s, more, at, c, n, code, size)
				}
			}
		}
	}
}

func TestLinesNeverFall(t *testing.T) {
	for _, s := range samples() {
		last := 1
		for at := -1; at <= len(s)+1; at++ {
			line, column := runes.Place(s, at)
			if line < last || line > last+1 || column < 1 {
				t.Fatalf("%q at %d: %d, %d behind line %d", s, at, line, column, last)
			}
			last = line
		}
	}
}
