package floats_test

import (
	"math/big"
	"regexp"
	"strconv"
	"strings"

	"rhizome/api"
)

// The chapter's words, taken one by one with whole numbers and fractions of any size, to hold the package against.

const (
	sign      = 1 << 63
	infinity  = 2047 << 52
	greatest  = infinity - 1
	leastFull = 1 << 52
)

func modelKind(bits uint64) int {
	size := bits % sign
	x, f := size>>52, size%(1<<52)
	switch {
	case x == 0 && f == 0:
		return api.FloatZero
	case x == 0:
		return api.FloatTiny
	case x < 2047:
		return api.FloatNormal
	case f == 0:
		return api.FloatInf
	}
	return api.FloatNan
}

func power(base, n int64) *big.Rat {
	amount := new(big.Rat).SetInt(new(big.Int).Exp(big.NewInt(base), big.NewInt(max(n, -n)), nil))
	if n < 0 {
		amount.Inv(amount)
	}
	return amount
}

func times(n uint64, r *big.Rat) *big.Rat {
	return new(big.Rat).Mul(new(big.Rat).SetUint64(n), r)
}

// modelAmount is that of a finite size.
func modelAmount(size uint64) *big.Rat {
	x, f := size>>52, size%(1<<52)
	if x == 0 {
		return times(f, power(2, -1074))
	}
	return times(1<<52+f, power(2, int64(x)-1075))
}

// halfway is the amount in the middle of a size's and the next one's; behind the greatest one it is that from which on there is no nearest.
func halfway(size uint64) *big.Rat {
	if size == greatest {
		return times(1<<54-1, power(2, 970))
	}
	sum := new(big.Rat).Add(modelAmount(size), modelAmount(size+1))
	return sum.Quo(sum, big.NewRat(2, 1))
}

// modelNearest seeks the greatest size whose amount is no more, and takes it or the next one.
func modelNearest(amount *big.Rat) (uint64, bool) {
	if amount.Cmp(halfway(greatest)) >= 0 {
		return 0, false
	}
	low, high := uint64(0), uint64(greatest)
	for low < high {
		middle := high - (high-low)/2
		if modelAmount(middle).Cmp(amount) <= 0 {
			low = middle
		} else {
			high = middle - 1
		}
	}
	c := amount.Cmp(halfway(low))
	if c > 0 || c == 0 && low%2 == 1 {
		// Behind the greatest one the amount would have no nearest, so there is a next one.
		low++
	}
	return low, true
}

var numberText = regexp.MustCompile(`\A(-?)(0|[1-9][0-9]*)(?:\.([0-9]+))?(?:[eE]([+-]?[0-9]+))?\z`)

// modelRead is a text's amount and whether its sign is there; a power beyond 2000 is taken as 2000: 64 digits don't reach that far.
func modelRead(s string) (amount *big.Rat, below, ok bool) {
	m := numberText.FindStringSubmatch(s)
	if m == nil || len(s) > 64 {
		return nil, false, false
	}
	digits, _ := new(big.Int).SetString(m[2]+m[3], 10)
	exponent, _ := new(big.Int).SetString("0"+strings.TrimLeft(m[4], "+-"), 10)
	n := int64(2000)
	if exponent.IsInt64() {
		n = min(n, exponent.Int64())
	}
	if strings.HasPrefix(m[4], "-") {
		n = -n
	}
	amount = new(big.Rat).SetInt(digits)
	return amount.Mul(amount, power(10, n-int64(len(m[3])))), m[1] == "-", true
}

func modelParse(s string) (uint64, api.Errno) {
	amount, below, ok := modelRead(s)
	if !ok {
		return 0, api.ErrFloatText
	}
	size, ok := modelNearest(amount)
	if !ok {
		return 0, api.ErrFloatBig
	}
	if below {
		size += sign
	}
	return size, api.OK
}

// firstPower is the power of ten of an amount's first digit.
func firstPower(amount *big.Rat) int64 {
	n := int64(-400)
	for power(10, n+1).Cmp(amount) <= 0 {
		n++
	}
	return n
}

// cutTo takes an amount in units of a power of ten, and tells what is left over.
func cutTo(amount *big.Rat, unit int64) (*big.Int, *big.Rat) {
	scaled := new(big.Rat).Quo(amount, power(10, unit))
	whole := new(big.Int).Quo(scaled.Num(), scaled.Denom())
	return whole, scaled.Sub(scaled, new(big.Rat).SetInt(whole))
}

func modelText(bits uint64) (string, api.Errno) {
	if modelKind(bits) >= api.FloatInf {
		return "", api.ErrFloatKind
	}
	text := ""
	if bits >= sign {
		text = "-"
	}
	if bits%sign == 0 {
		return text + "0e0", api.OK
	}
	amount := modelAmount(bits % sign)
	n := firstPower(amount)
	whole, left := cutTo(amount, n-16)
	if c := left.Cmp(big.NewRat(1, 2)); c > 0 || c == 0 && whole.Bit(0) == 1 {
		whole.Add(whole, big.NewInt(1))
	}
	digits := whole.String()
	if len(digits) == 18 {
		n++
	}
	text += digits[:1]
	if more := strings.TrimRight(digits[1:], "0"); more != "" {
		text += "." + more
	}
	return text + "e" + strconv.FormatInt(n, 10), api.OK
}

// textsAround are texts of at most 64 bytes next to an amount, from below and from above, and its own one, if it has one so short.
func textsAround(amount *big.Rat) []string {
	n := firstPower(amount)
	const digits = 56
	whole, left := cutTo(amount, n-digits+1)
	write := func(whole *big.Int) string {
		return whole.String() + "e" + strconv.FormatInt(n-digits+1, 10)
	}
	above := new(big.Int).Add(whole, big.NewInt(1))
	if left.Sign() > 0 {
		return []string{write(whole), write(above)}
	}
	below := new(big.Int).Sub(whole, big.NewInt(1))
	return []string{write(below), write(whole), write(above)}
}
