package oid

import (
	"quittance/api"
	"quittance/head"
	"quittance/octet"
)

const (
	base    = 128
	moreBit = 128 // of a digit that others follow
)

// Contents returns the contents of o.
func Contents(o []int) ([]byte, api.Errno) {
	if !Right(o) {
		return nil, api.ErrArg
	}
	var out []byte
	var write func(n, mark int)
	write = func(n, mark int) {
		if n >= base {
			write(n/base, moreBit)
		}
		out = append(out, byte(n%base+mark))
	}
	write(topUnit*o[0]+o[1], 0)
	for _, n := range o[leastArcs:] {
		write(n, 0)
	}
	return out, api.OK
}

// Parse returns the oid whose contents are b.
func Parse(b []byte) ([]int, api.Errno) {
	n, size, e := number(b) // ErrForm for no bytes too
	if e != api.OK {
		return nil, e
	}
	o := split(n)
	for b = b[size:]; len(b) > 0; b = b[size:] {
		if n, size, e = number(b); e != api.OK {
			return nil, e
		}
		if len(o) == api.MaxArcs {
			return nil, api.ErrLong
		}
		o = append(o, n)
	}
	return o, api.OK
}

// number returns the number at the beginning of b, and how many bytes it has.
func number(b []byte) (n, size int, e api.Errno) {
	for i, x := range b {
		if i == 0 && x == moreBit {
			return 0, 0, api.ErrForm
		}
		n = n*base + int(x%moreBit)
		if n > mostNumber {
			return 0, 0, api.ErrLong
		}
		if x < moreBit {
			return n, i + 1, api.OK
		}
	}
	return 0, 0, api.ErrForm // no digit was the last one, or there was none
}

// split returns the first two numbers, which the contents hold as one.
func split(n int) []int {
	top := min(n/topUnit, mostTop)
	return []int{top, n - top*topUnit}
}

// Read returns the next oid.
func Read(c *octet.Cursor) ([]int, api.Errno) {
	at := c.At()
	in, e := head.Open(c, head.Of(head.Oid))
	if e != api.OK {
		return nil, e
	}
	o, e := Parse(in.Rest())
	if e != api.OK {
		c.Back(at)
	}
	return o, e
}

// Write returns the element of o.
func Write(o []int) ([]byte, api.Errno) {
	b, e := Contents(o)
	if e != api.OK {
		return nil, e
	}
	return head.Wrap(head.Of(head.Oid), b)
}

// Must returns the element of the oid with these numbers, no bytes if there is none: for oids that are written out in a program.
func Must(l ...int) []byte {
	b, _ := Write(l)
	return b
}
