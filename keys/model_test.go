package keys_test

import (
	"encoding/binary"
	"math"
	"math/big"
	"regexp"
	"strings"

	"rhizome/api"
)

// The model says the chapter's words anew: with amounts of any size, with patterns for the bytes, and without the layer below.

const (
	sign     = 1 << 63
	infinity = 0x7ff << 52
)

// modelMayBe tells of one part whether it may be a key's.
func modelMayBe(p api.Part) bool {
	f := math.Float64frombits(p.Bits)
	switch {
	case p.Kind == 0:
		return p.Bits == 0 && p.Text == ""
	case p.Kind == 1:
		return p.Int == 0 && p.Text == "" && f == f && (f != 0 || !math.Signbit(f))
	case p.Kind == 2:
		return p.Int == 0 && p.Bits == 0 && len(p.Text) < 256
	}
	return false
}

func modelCheck(l []api.Part) api.Errno {
	bad := len(l) > 16
	for _, p := range l {
		bad = bad || !modelMayBe(p)
	}
	if bad {
		return 30
	}
	return 0
}

// modelNumber is an amount of 0 to 2^64 - 1 as eight bytes.
func modelNumber(n *big.Int) string { return string(n.FillBytes(make([]byte, 8))) }

// modelPlace is a number's place among all.
func modelPlace(bits uint64) *big.Int {
	half, size := new(big.Int).Lsh(big.NewInt(1), 63), new(big.Int).SetUint64(bits&^sign)
	if bits&sign != 0 {
		return half.Sub(half, size)
	}
	return half.Add(half, size)
}

func modelBytes(p api.Part) string {
	switch p.Kind {
	case 0:
		half := new(big.Int).Lsh(big.NewInt(1), 63)
		return "\x01" + modelNumber(half.Add(half, big.NewInt(int64(p.Int))))
	case 1:
		return "\x02" + modelNumber(modelPlace(p.Bits))
	}
	return "\x03" + strings.Join(strings.Split(p.Text, "\x00"), "\x00\xff") + "\x00\x00"
}

func modelEncode(l []api.Part) (string, api.Errno) {
	if modelCheck(l) != 0 {
		return "", 30
	}
	s := ""
	for _, p := range l {
		s += modelBytes(p)
	}
	return s, 0
}

// onePart finds, among bytes that are written as characters, the first part.
var onePart = regexp.MustCompile(`(?s)^(?:\x01(.{8})|\x02(.{8})|\x03((?:[^\x00]|\x00ÿ)*)\x00\x00)`)

// wide writes each byte as the character of its number, so that a pattern sees bytes.
func wide(s string) string {
	l := make([]rune, len(s))
	for i := range l {
		l[i] = rune(s[i])
	}
	return string(l)
}

func narrow(s string) string {
	var l []byte
	for _, c := range s {
		l = append(l, byte(c))
	}
	return string(l)
}

func modelPart(found []string) api.Part {
	switch found[0][0] {
	case 1:
		return api.Part{Int: int(binary.BigEndian.Uint64([]byte(narrow(found[1]))) ^ sign)}
	case 2:
		place := binary.BigEndian.Uint64([]byte(narrow(found[2])))
		switch {
		case place < sign-infinity || place > sign+infinity:
			return api.Part{Kind: -1}
		case place < sign:
			return api.Part{Kind: 1, Bits: sign + (sign - place)}
		}
		return api.Part{Kind: 1, Bits: place - sign}
	}
	return api.Part{Kind: 2, Text: strings.ReplaceAll(narrow(found[3]), "\x00\xff", "\x00")}
}

func modelDecode(s string) ([]api.Part, api.Errno) {
	var l []api.Part
	for left := wide(s); left != ""; {
		found := onePart.FindStringSubmatch(left)
		if found == nil {
			return nil, 31
		}
		l = append(l, modelPart(found))
		left = left[len(found[0]):]
	}
	if modelCheck(l) != 0 {
		return nil, 31
	}
	return l, 0
}

// modelAhead tells whether part p stands ahead of part q.
func modelAhead(p, q api.Part) bool {
	if p.Kind != q.Kind {
		return p.Kind < q.Kind
	}
	return p.Kind == 0 && p.Int < q.Int || p.Kind == 1 && math.Float64frombits(p.Bits) < math.Float64frombits(q.Bits) || p.Kind == 2 && p.Text < q.Text
}

func modelCmp(a, b []api.Part) int {
	switch {
	case len(a) == 0 && len(b) == 0:
		return 0
	case len(a) == 0 || len(b) > 0 && modelAhead(a[0], b[0]):
		return -1
	case len(b) == 0 || modelAhead(b[0], a[0]):
		return 1
	}
	return modelCmp(a[1:], b[1:])
}
