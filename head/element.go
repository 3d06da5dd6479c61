package head

import (
	"quittance/api"
	"quittance/octet"
)

// Wrap returns the element with the tag t and the concatenation of l as its contents.
func Wrap(t Tag, l ...[]byte) ([]byte, api.Errno) {
	tag, length, e := encode(t, total(l))
	if e != api.OK {
		return nil, e
	}
	return octet.Join(append([][]byte{tag, length}, l...)...), api.OK
}

// Size returns the length of an element with the tag t and n bytes of contents, 0 if there is none.
func Size(t Tag, n int) int {
	tag, length, e := encode(t, n)
	if e != api.OK {
		return 0
	}
	return len(tag) + len(length) + n
}

// encode returns both parts of a header.
func encode(t Tag, n int) (tag, length []byte, e api.Errno) {
	if tag, e = Bytes(t); e != api.OK {
		return nil, nil, e
	}
	if length, e = Length(n); e != api.OK {
		return nil, nil, e
	}
	return tag, length, api.OK
}

// total returns the length of all contents together. It stays just beyond the limit once it is there, so that it cannot overflow.
func total(l [][]byte) int {
	n := 0
	for _, b := range l {
		n = min(n+len(b), api.MaxInput+1)
	}
	return n
}

// Open returns a cursor over the contents of the next element, which must have the tag t, and advances past it.
func Open(c *octet.Cursor, t Tag) (*octet.Cursor, api.Errno) {
	return kept(c, func(c *octet.Cursor) (*octet.Cursor, api.Errno) {
		found, n, e := Read(c)
		if e != api.OK {
			return nil, e
		}
		if found != t {
			return nil, api.ErrTag
		}
		return c.Sub(n)
	})
}

// Is reports whether the header of an element with the tag t comes next. The cursor stays where it is.
func Is(c *octet.Cursor, t Tag) bool {
	at := c.At()
	found, _, e := Read(c)
	c.Back(at)
	return e == api.OK && found == t
}

// Alone returns a cursor over the contents of b, which must be one element with the tag t and nothing behind it.
func Alone(b []byte, t Tag) (*octet.Cursor, api.Errno) {
	c := octet.New(b)
	contents, e := Open(c, t)
	if e != api.OK {
		return nil, e
	}
	if c.Left() > 0 {
		return nil, api.ErrMore
	}
	return contents, api.OK
}
