// Package octet is layer 1: byte strings, and a cursor over them. See shared/doc/01-octet.md.
package octet

import (
	"bytes"

	"quittance/api"
)

// store holds the bytes of a cursor. Nobody writes to them once they are there, and they leave only as copies.
type store []byte

func (s store) size() int { return len(s) }

func (s store) octet(at int) byte { return s[at] }

func (s store) piece(from, to int) []byte { return bytes.Clone(s[from:to]) }

// Cursor is a position in a byte string. A nil cursor is allowed everywhere: its reading methods return ErrState.
type Cursor struct {
	store
	at int
}

// New returns a cursor at the beginning of a copy of b, so that later changes of b are not seen.
func New(b []byte) *Cursor { return &Cursor{store: bytes.Clone(b)} }

// Left returns the number of bytes after the position.
func (c *Cursor) Left() int {
	if c == nil {
		return 0
	}
	return c.size() - c.at
}

// At returns the position.
func (c *Cursor) At() int {
	if c == nil {
		return 0
	}
	return c.at
}

// has tells why the next n bytes cannot be read, or OK.
func (c *Cursor) has(n int) api.Errno {
	switch {
	case c == nil:
		return api.ErrState
	case n < 0:
		return api.ErrArg
	case n > c.Left(): // not at+n, which overflows for a huge n
		return api.ErrEnd
	}
	return api.OK
}

// Peek returns the next byte, and stays where it is.
func (c *Cursor) Peek() (byte, api.Errno) {
	if e := c.has(1); e != api.OK {
		return 0, e
	}
	return c.octet(c.at), api.OK
}

// Byte returns the next byte, and advances by one.
func (c *Cursor) Byte() (byte, api.Errno) {
	x, e := c.Peek()
	if e == api.OK {
		c.at++
	}
	return x, e
}

// Take returns the next n bytes, and advances by n.
func (c *Cursor) Take(n int) ([]byte, api.Errno) {
	if e := c.has(n); e != api.OK {
		return nil, e
	}
	from := c.at
	c.at += n
	return c.piece(from, c.at), api.OK
}

// Sub returns the next n bytes as a cursor over them alone, and advances by n.
func (c *Cursor) Sub(n int) (*Cursor, api.Errno) {
	b, e := c.Take(n)
	if e != api.OK {
		return nil, e
	}
	return &Cursor{store: b}, api.OK // b is a copy already
}

// Rest returns all bytes left, and moves to the end.
func (c *Cursor) Rest() []byte {
	b, _ := c.Take(c.Left()) // fails for a nil cursor alone, which has nothing
	return b
}

// Back moves to the position at, which is not after the current one.
func (c *Cursor) Back(at int) api.Errno {
	if c == nil {
		return api.ErrState
	}
	if at < 0 || at > c.at {
		return api.ErrArg
	}
	c.at = at
	return api.OK
}

// Compare returns -1, 0 or 1 as a is less than, equal to or greater than b; a proper prefix is less.
func Compare(a, b []byte) int { return bytes.Compare(a, b) }

// Equal reports whether a and b are the same bytes; nil and empty are.
func Equal(a, b []byte) bool { return bytes.Equal(a, b) }

// Join returns the concatenation of its arguments, in new memory even if there is one only.
func Join(l ...[]byte) []byte {
	size := 0
	for _, b := range l {
		size += len(b)
	}
	out := make([]byte, 0, size)
	for _, b := range l {
		out = append(out, b...)
	}
	return out
}

// Common returns the length of the longest prefix that all arguments share, 0 if there are none.
func Common(l ...[]byte) int {
	if len(l) == 0 {
		return 0
	}
	shared := l[0]
	for _, b := range l[1:] {
		shared = shared[:alike(shared, b)]
	}
	return len(shared)
}

// alike returns the length of the longest common prefix of two byte strings.
func alike(a, b []byte) int {
	n := min(len(a), len(b))
	for i := range n {
		if a[i] != b[i] {
			return i
		}
	}
	return n
}
