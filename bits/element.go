package bits

import (
	"quittance/api"
	"quittance/head"
	"quittance/octet"
)

// Read returns the next bit string.
func Read(c *octet.Cursor) (String, api.Errno) { return read(c, head.BitString, Parse) }

// ReadBool returns the next boolean.
func ReadBool(c *octet.Cursor) (bool, api.Errno) { return read(c, head.Boolean, ParseBool) }

// ReadNull passes over the next null.
func ReadNull(c *octet.Cursor) api.Errno {
	_, e := read(c, head.Null, parseNull)
	return e
}

// ReadOctets returns the next octet string.
func ReadOctets(c *octet.Cursor) ([]byte, api.Errno) { return read(c, head.OctetString, parseOctets) }

// read returns what parse makes of the contents of the next element, which has the universal tag of that number. With an error the cursor stays at its position.
func read[T any](c *octet.Cursor, number int, parse func([]byte) (T, api.Errno)) (T, api.Errno) {
	var none T
	at := c.At()
	in, e := head.Open(c, head.Of(number))
	if e != api.OK {
		return none, e
	}
	x, e := parse(in.Rest())
	if e != api.OK {
		c.Back(at)
		return none, e
	}
	return x, api.OK
}

// Write returns the element of s.
func Write(s String) ([]byte, api.Errno) {
	b, e := Contents(s)
	if e != api.OK {
		return nil, e
	}
	return head.Wrap(head.Of(head.BitString), b)
}

// WriteBool returns the element of x.
func WriteBool(x bool) []byte {
	contents := byte(falseByte)
	if x {
		contents = trueByte
	}
	b, _ := head.Wrap(head.Of(head.Boolean), []byte{contents}) // one byte is never too long
	return b
}

// WriteNull returns the element of null.
func WriteNull() []byte {
	b, _ := head.Wrap(head.Of(head.Null))
	return b
}

// WriteOctets returns the element of the octet string b.
func WriteOctets(b []byte) ([]byte, api.Errno) {
	return head.Wrap(head.Of(head.OctetString), b)
}
