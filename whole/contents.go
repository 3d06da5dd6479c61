package whole

import (
	"bytes"

	"quittance/api"
	"quittance/head"
	"quittance/octet"
)

const signBit = 128 // of the first byte of the contents

// Contents returns the fewest bytes that represent n in two's complement.
func Contents(n Num) ([]byte, api.Errno) {
	n = plain(n)
	below := n.Below
	if below {
		n = opposite(n)
	}
	count := Bits(n)/byteBits + 1 // with room for the sign
	if count > api.MaxWhole {
		return nil, api.ErrLong
	}
	out := make([]byte, count)
	copy(out[count-len(n.Size):], n.Size)
	if below {
		flip(out)
	}
	return out, api.OK
}

// Parse returns the integer whose contents are b.
func Parse(b []byte) (Num, api.Errno) {
	switch {
	case len(b) == 0:
		return Num{}, api.ErrForm
	case len(b) > api.MaxWhole:
		return Num{}, api.ErrLong
	case idle(b):
		return Num{}, api.ErrForm
	}
	size := bytes.Clone(b)
	if b[0] < signBit {
		return Num{Size: trim(size)}, api.OK
	}
	flip(size)
	return opposite(Num{Size: size}), api.OK
}

// opposite returns -1 - n, whose bits in two's complement are those of n, each one flipped.
func opposite(n Num) Num { return Add(Neg(n), Of(-1)) }

// flip changes every bit of b.
func flip(b []byte) {
	for i := range b {
		b[i] = ^b[i]
	}
}

// idle reports whether the first nine bits of b are equal, so that its first byte says nothing.
func idle(b []byte) bool {
	if len(b) < 2 {
		return false
	}
	return b[0] == 0 && b[1] < signBit || b[0] == ^byte(0) && b[1] >= signBit
}

// Read returns the next integer.
func Read(c *octet.Cursor) (Num, api.Errno) { return read(c, head.Of(head.Integer)) }

// Write returns the element of n.
func Write(n Num) ([]byte, api.Errno) { return write(n, head.Of(head.Integer)) }

// ReadInt returns the next integer, which has the universal tag of that number, as an int.
func ReadInt(c *octet.Cursor, number int) (int, api.Errno) {
	t := head.Of(number)
	if !head.Right(t) {
		return 0, api.ErrArg
	}
	at := c.At()
	n, e := read(c, t)
	if e != api.OK {
		return 0, e
	}
	k, e := Int(n)
	if e != api.OK {
		c.Back(at)
	}
	return k, e
}

// WriteInt returns the element of k with the universal tag of that number.
func WriteInt(k int, number int) ([]byte, api.Errno) {
	t := head.Of(number)
	if !head.Right(t) {
		return nil, api.ErrArg
	}
	return write(Of(k), t)
}

// read returns the integer of the next element, which has the tag t. With an error the cursor stays at its position.
func read(c *octet.Cursor, t head.Tag) (Num, api.Errno) {
	at := c.At()
	in, e := head.Open(c, t)
	if e != api.OK {
		return Num{}, e
	}
	n, e := Parse(in.Rest())
	if e != api.OK {
		c.Back(at)
	}
	return n, e
}

// write returns the element of n with the tag t.
func write(n Num, t head.Tag) ([]byte, api.Errno) {
	b, e := Contents(n)
	if e != api.OK {
		return nil, e
	}
	return head.Wrap(t, b)
}
