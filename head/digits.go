package head

import (
	"quittance/api"
	"quittance/octet"
)

// The parts of the first byte of a tag, and of a digit that others follow.
const (
	classUnit = 64  // times the class
	madeBit   = 32  // of a tag that is Made
	manyMark  = 31  // in place of a number that is written with digits
	moreBit   = 128 // of a digit, or of a length, that digits follow
)

const (
	tagBase         = 128
	maxTagDigits    = 3
	maxNumber       = 1<<21 - 1 // three digits of seven bits
	lengthBase      = 256
	maxLengthDigits = 4
)

// Bytes returns the encoding of a tag.
func Bytes(t Tag) ([]byte, api.Errno) {
	if !Right(t) {
		return nil, api.ErrArg
	}
	first := classUnit * t.Class
	if t.Made {
		first += madeBit
	}
	if t.Number < manyMark {
		return []byte{byte(first + t.Number)}, api.OK
	}
	number := spell(t.Number, tagBase)
	for i := range len(number) - 1 {
		number[i] += moreBit
	}
	return octet.Join([]byte{byte(first + manyMark)}, number), api.OK
}

// Length returns the encoding of a length.
func Length(n int) ([]byte, api.Errno) {
	switch {
	case n < 0:
		return nil, api.ErrArg
	case n > api.MaxInput:
		return nil, api.ErrLong
	case n < moreBit:
		return []byte{byte(n)}, api.OK
	}
	number := spell(n, lengthBase)
	return octet.Join([]byte{byte(moreBit + len(number))}, number), api.OK
}

// ReadTag returns the next tag.
func ReadTag(c *octet.Cursor) (Tag, api.Errno) { return kept(c, readTag) }

func readTag(c *octet.Cursor) (Tag, api.Errno) {
	x, e := c.Byte()
	if e != api.OK {
		return Tag{}, e
	}
	t := Tag{Class: int(x) / classUnit, Number: int(x) % madeBit, Made: x&madeBit != 0}
	if t.Number == manyMark {
		t.Number, e = readNumber(c)
	}
	return t, e
}

// readNumber returns the number of a tag that is written with digits.
func readNumber(c *octet.Cursor) (int, api.Errno) {
	add, n := gather(tagBase), 0
digits:
	for i := 0; ; i++ {
		x, e := c.Byte()
		if e != api.OK {
			return 0, e
		}
		n = add(x % moreBit)
		switch {
		case n == 0, i == maxTagDigits: // only a first digit leaves the number at 0
			return 0, api.ErrTag
		case x < moreBit:
			break digits
		}
	}
	if n < manyMark {
		return 0, api.ErrTag
	}
	return n, api.OK
}

// ReadLength returns the next length.
func ReadLength(c *octet.Cursor) (int, api.Errno) { return kept(c, readLength) }

func readLength(c *octet.Cursor) (int, api.Errno) {
	x, e := c.Byte()
	if e != api.OK {
		return 0, e
	}
	if x < moreBit {
		return int(x), api.OK
	}
	count := int(x - moreBit)
	if count == 0 || count > maxLengthDigits {
		return 0, api.ErrLen
	}
	digits, e := c.Take(count)
	if e != api.OK {
		return 0, e
	}
	add, n := gather(lengthBase), 0
	for _, d := range digits {
		n = add(d)
	}
	switch {
	case digits[0] == 0 || n < moreBit:
		return 0, api.ErrLen
	case n > api.MaxInput:
		return 0, api.ErrLong
	}
	return n, api.OK
}

// gather returns a function that is given digits in that base, the most significant one first, and returns the number that they make so far.
func gather(base int) func(digit byte) int {
	n := 0
	return func(digit byte) int {
		n = n*base + int(digit)
		return n
	}
}

// spell returns the digits of n in that base, the most significant one first, as few as possible.
func spell(n, base int) []byte {
	var out []byte
	var collect func(int)
	collect = func(n int) {
		if n >= base {
			collect(n / base)
		}
		out = append(out, byte(n%base))
	}
	collect(n)
	return out
}
