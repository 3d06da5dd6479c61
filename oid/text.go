package oid

import (
	"strconv"
	"strings"

	"quittance/api"
)

const (
	point     = "."
	maxDigits = 10 // of a number in a text, which may so be beyond the greatest one
)

// Text returns the numbers of o in decimal, with points between them.
func Text(o []int) (string, api.Errno) {
	if !Right(o) {
		return "", api.ErrArg
	}
	parts := make([]string, 0, len(o))
	for _, n := range o {
		parts = append(parts, strconv.Itoa(n))
	}
	return strings.Join(parts, point), api.OK
}

// FromText returns the oid whose text is s.
func FromText(s string) ([]int, api.Errno) {
	var o []int
	for part, more := "", true; more; {
		part, s, more = strings.Cut(s, point)
		n, ok := decimal(part)
		if !ok {
			return nil, api.ErrForm
		}
		o = append(o, n)
	}
	if !Right(o) {
		return nil, api.ErrArg
	}
	return o, api.OK
}

// decimal returns the number with these decimal digits, and whether it is written as it must be.
func decimal(s string) (int, bool) {
	if s == "" || len(s) > maxDigits || len(s) > 1 && s[0] == '0' {
		return 0, false
	}
	n := 0
	for i := range len(s) {
		if s[i] < '0' || s[i] > '9' {
			return 0, false
		}
		n = 10*n + int(s[i]-'0')
	}
	return n, true
}
