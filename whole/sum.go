package whole

import (
	"cmp"

	"quittance/octet"
)

// Compare returns -1, 0 or 1, if a is less than, equal to or greater than b.
func Compare(a, b Num) int {
	a, b = plain(a), plain(b)
	switch {
	case a.Below && b.Below:
		return compareSizes(b.Size, a.Size)
	case a.Below:
		return -1
	case b.Below:
		return 1
	}
	return compareSizes(a.Size, b.Size)
}

// compareSizes compares absolute values without leading zeros, of which the longer one is the greater one.
func compareSizes(a, b []byte) int {
	if c := cmp.Compare(len(a), len(b)); c != 0 {
		return c
	}
	return octet.Compare(a, b)
}

// Add returns the sum of a and b.
func Add(a, b Num) Num {
	a, b = plain(a), plain(b)
	if compareSizes(a.Size, b.Size) < 0 {
		a, b = b, a // the greater size decides the sign
	}
	times := 1
	if a.Below != b.Below {
		times = -1
	}
	return plain(Num{Below: a.Below, Size: sum(a.Size, b.Size, times)})
}

// sum returns a plus that many times b, which must not be less than 0.
func sum(a, b []byte, times int) []byte {
	out := make([]byte, max(len(a), len(b))+1)
	next := carry(0)
	for i := range len(out) {
		out[len(out)-1-i] = next(place(a, i) + times*place(b, i))
	}
	return out
}

// place returns the digit of b at the place i, counted from the least significant one; beyond the first one there are zeros.
func place(b []byte, i int) int {
	if i >= len(b) {
		return 0
	}
	return int(b[len(b)-1-i])
}

// carry returns a function that is given what stands at each place, the least significant place first, and returns the digit that remains there. The rest is carried to the next place; it may be negative, and then it is borrowed from there.
func carry(rest int) func(here int) byte {
	return func(here int) byte {
		rest += here
		digit := byte(rest)
		rest >>= byteBits // rounds down, so that the digit is never negative
		return digit
	}
}
