package clock

import (
	"quittance/api"
	"quittance/head"
	"quittance/octet"
)

// Read returns the next time, of either kind.
func Read(c *octet.Cursor) (Time, api.Errno) { return kept(c, next) }

// ReadStrict returns the next time, which must have the kind of its second.
func ReadStrict(c *octet.Cursor) (Time, api.Errno) { return kept(c, nextStrict) }

// ReadGeneral returns the second of the next time, which must be of the kind GeneralTime.
func ReadGeneral(c *octet.Cursor) (int, api.Errno) {
	t, e := kept(c, nextGeneral)
	return t.Second, e
}

// kept returns what read returns, and takes the cursor back to its position if that is an error.
func kept(c *octet.Cursor, read func(*octet.Cursor) (Time, api.Errno)) (Time, api.Errno) {
	at := c.At()
	t, e := read(c)
	if e != api.OK {
		c.Back(at) // fails for a nil cursor alone, which has no position to lose
		return Time{}, e
	}
	return t, api.OK
}

func next(c *octet.Cursor) (Time, api.Errno) {
	tag, n, e := head.Read(c)
	if e != api.OK {
		return Time{}, e
	}
	if !isKind(tag.Number) || tag != head.Of(tag.Number) {
		return Time{}, api.ErrTag
	}
	b, e := c.Take(n)
	if e != api.OK {
		return Time{}, e
	}
	return Parse(tag.Number, b)
}

func nextStrict(c *octet.Cursor) (Time, api.Errno) {
	t, e := next(c)
	if e == api.OK && t.Kind != Kind(t.Second) {
		return Time{}, api.ErrForm
	}
	return t, e
}

func nextGeneral(c *octet.Cursor) (Time, api.Errno) {
	in, e := head.Open(c, head.Of(head.GeneralTime))
	if e != api.OK {
		return Time{}, e
	}
	return Parse(head.GeneralTime, in.Rest())
}

// Write returns the element of t.
func Write(t Time) ([]byte, api.Errno) {
	b, e := Contents(t)
	if e != api.OK {
		return nil, e
	}
	return head.Wrap(head.Of(t.Kind), b)
}
