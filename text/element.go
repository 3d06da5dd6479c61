package text

import (
	"slices"

	"quittance/api"
	"quittance/head"
	"quittance/octet"
)

// Read returns the next text, of one of the kinds given, or of any kind if none is given.
func Read(c *octet.Cursor, kinds ...int) (Text, api.Errno) {
	if len(kinds) == 0 {
		kinds = Kinds()
	}
	at := c.At()
	t, e := next(c, kinds)
	if e != api.OK {
		c.Back(at)
		return Text{}, e
	}
	return t, api.OK
}

// next reads a text, and leaves the cursor anywhere with an error.
func next(c *octet.Cursor, kinds []int) (Text, api.Errno) {
	tag, n, e := head.Read(c)
	if e != api.OK {
		return Text{}, e
	}
	if tag.Class != head.Universal || tag.Made || !slices.Contains(kinds, tag.Number) {
		return Text{}, api.ErrTag
	}
	b, e := c.Take(n)
	if e != api.OK {
		return Text{}, e
	}
	t := Text{Kind: tag.Number, Bytes: b}
	if !Right(t) {
		return Text{}, api.ErrForm
	}
	return t, api.OK
}

// Write returns the element of t.
func Write(t Text) ([]byte, api.Errno) {
	if !Right(t) {
		return nil, api.ErrForm
	}
	return head.Wrap(head.Of(t.Kind), t.Bytes)
}
