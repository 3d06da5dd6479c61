package whole

import (
	"math/bits"
	"slices"
	"strconv"
	"strings"

	"quittance/api"
)

const (
	minus       = "-"
	maxDigits   = 400
	groupDigits = 19 // as many decimal digits as a word can always hold
	groupBase   = 10_000_000_000_000_000_000
)

// Text returns the decimal digits of n, with a minus if it is negative.
func Text(n Num) string {
	n = plain(n)
	if n.Below {
		return minus + decimal(n.Size)
	}
	return decimal(n.Size)
}

// decimal returns the decimal digits of an absolute value. It works in words and in groups of digits, because the time grows with the square of the length.
func decimal(size []byte) string {
	var groups []string
	for left := words(size); ; {
		digits := strconv.FormatUint(divide(left), 10)
		left = trimWords(left)
		if len(left) == 0 {
			groups = append(groups, digits)
			break
		}
		groups = append(groups, strings.Repeat("0", groupDigits-len(digits))+digits)
	}
	slices.Reverse(groups)
	return strings.Join(groups, "")
}

// words returns an absolute value in base 2^64, the most significant word first.
func words(size []byte) []uint64 {
	out := make([]uint64, (len(size)+wordBytes-1)/wordBytes)
	for i := range len(size) {
		out[len(out)-1-i/wordBytes] |= uint64(place(size, i)) << (byteBits * (i % wordBytes))
	}
	return out
}

// trimWords returns w without its leading zeros.
func trimWords(w []uint64) []uint64 {
	for len(w) > 0 && w[0] == 0 {
		w = w[1:]
	}
	return w
}

// divide divides w by the base of the groups, in its place, and returns the remainder.
func divide(w []uint64) uint64 {
	rest := uint64(0)
	for i := range w {
		w[i], rest = bits.Div64(rest, w[i], groupBase)
	}
	return rest
}

// FromText returns the integer whose Text is s.
func FromText(s string) (Num, api.Errno) {
	digits, below := strings.CutPrefix(s, minus)
	switch {
	case !decimalText(digits, below):
		return Num{}, api.ErrForm
	case len(digits) > maxDigits:
		return Num{}, api.ErrLong
	}
	return Num{Below: below, Size: fromDecimal(digits)}, api.OK
}

// decimalText reports whether s is what Text writes behind the sign: the one zero has none.
func decimalText(s string, below bool) bool {
	for i := range len(s) {
		if s[i] < '0' || s[i] > '9' {
			return false
		}
	}
	if s == "0" {
		return !below
	}
	return s != "" && s[0] != '0'
}

// fromDecimal returns the absolute value with those decimal digits.
func fromDecimal(digits string) []byte {
	out := make([]byte, len(digits)/2+1) // a decimal digit needs less than four bits
	for i := range len(digits) {
		next := carry(int(digits[i] - '0'))
		for j := range len(out) {
			at := len(out) - 1 - j
			out[at] = next(10 * int(out[at]))
		}
	}
	return trim(out)
}
