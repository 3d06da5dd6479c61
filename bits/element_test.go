package bits_test

import (
	"bytes"
	"encoding/asn1"
	"testing"

	"quittance/api"
	"quittance/bits"
	"quittance/head"
	"quittance/octet"
)

// reader is a reading function of the package, of which what it answers is told as a text that is empty for a zero value.
type reader struct {
	number int
	read   func(*octet.Cursor) (string, api.Errno)
}

var readers = []reader{
	{head.BitString, func(c *octet.Cursor) (string, api.Errno) {
		s, e := bits.Read(c)
		if none(s) {
			return "", e
		}
		return octet.Hex([]byte{byte(s.Unused)}) + octet.Hex(s.Bytes), e
	}},
	{head.Boolean, func(c *octet.Cursor) (string, api.Errno) {
		x, e := bits.ReadBool(c)
		if x {
			return "true", e
		}
		return "", e
	}},
	{head.Null, func(c *octet.Cursor) (string, api.Errno) { return "", bits.ReadNull(c) }},
	{head.OctetString, func(c *octet.Cursor) (string, api.Errno) {
		b, e := bits.ReadOctets(c)
		return octet.Hex(b), e
	}},
}

// stays checks that reading fails with that error, twice, and that the cursor stays, wherever the bytes begin.
func (r reader) stays(t *testing.T, b []byte, want api.Errno) {
	t.Helper()
	for _, before := range []int{0, 1, 5} {
		c := octet.New(append(make([]byte, before), b...))
		c.Take(before)
		for range 2 {
			if s, e := r.read(c); s != "" || e != want || c.At() != before {
				t.Errorf("%x with the number %d: %s, %d at %d, want %d at %d", b, r.number, s, e, c.At(), want, before)
			}
		}
	}
}

// P5.4, P5.5: what is written is what the library writes, and is read as it was.
func TestReadAndWrite(t *testing.T) {
	for _, s := range bitStrings() {
		b, e := bits.Write(s)
		want, err := asn1.Marshal(asn1.BitString{Bytes: s.Bytes, BitLength: 8*len(s.Bytes) - s.Unused})
		if err != nil || e != api.OK || !bytes.Equal(b, want) {
			t.Errorf("Write(%v) = %x, %d, want %x, %v", s, b, e, want, err)
		}
		c := octet.New(octet.Join([]byte{9, 9}, b, []byte{3, 1, 0}))
		c.Take(2)
		back, e := bits.Read(c)
		if e != api.OK || !same(back, s) || c.At() != 2+len(b) {
			t.Error("Read", s, back, e, c.At())
		}
		if again, e := bits.Write(back); e != api.OK || !bytes.Equal(again, b) {
			t.Errorf("%x is written as %x, %d", b, again, e)
		}
	}
	for _, s := range wrongStrings() {
		if b, e := bits.Write(s); len(b) != 0 || e != api.ErrArg {
			t.Error("Write", s, b, e)
		}
	}
}

// P5.4, P5.5
func TestReadAndWriteOctets(t *testing.T) {
	for _, n := range []int{0, 1, 2, 127, 128, 255, 256, 65535, 65536, api.MaxInput} {
		in := bytes.Repeat([]byte{0xa5}, n)
		b, e := bits.WriteOctets(in)
		if want, err := asn1.Marshal(in); err != nil || e != api.OK || !bytes.Equal(b, want) {
			t.Error("WriteOctets", n, len(b), e, err)
		}
		c := octet.New(append(bytes.Clone(b), 4, 0))
		if back, e := bits.ReadOctets(c); e != api.OK || !bytes.Equal(back, in) || c.At() != len(b) {
			t.Error("ReadOctets", n, len(back), e, c.At())
		}
	}
	if b, e := bits.WriteOctets(nil); e != api.OK || octet.Hex(b) != "0400" {
		t.Error(b, e)
	}
	if b, e := bits.WriteOctets([]byte{7, 8}); e != api.OK || octet.Hex(b) != "04020708" {
		t.Error(b, e)
	}
}

// P5.4, P5.5
func TestBoolAndNull(t *testing.T) {
	if b := bits.WriteBool(true); octet.Hex(b) != "0101ff" {
		t.Error(b)
	}
	if b := bits.WriteBool(false); octet.Hex(b) != "010100" {
		t.Error(b)
	}
	if b := bits.WriteNull(); octet.Hex(b) != "0500" {
		t.Error(b)
	}
	c := octet.New(octet.Join([]byte{7}, bits.WriteBool(true), bits.WriteNull(), bits.WriteBool(false), bits.WriteNull()))
	c.Byte()
	if x, e := bits.ReadBool(c); !x || e != api.OK || c.At() != 4 {
		t.Error(x, e, c.At())
	}
	if e := bits.ReadNull(c); e != api.OK || c.At() != 6 {
		t.Error(e, c.At())
	}
	if x, e := bits.ReadBool(c); x || e != api.OK || c.At() != 9 {
		t.Error(x, e, c.At())
	}
	if e := bits.ReadNull(c); e != api.OK || c.At() != 11 {
		t.Error(e, c.At())
	}
	if e := bits.ReadNull(c); e != api.ErrEnd || c.At() != 11 {
		t.Error(e, c.At())
	}
}

// P5.4: elements of all kinds, one after the other; each function takes its own tag alone.
func TestReadOneAfterAnother(t *testing.T) {
	c := octet.New(raw(t, "03020182"+"0101ff"+"0500"+"0402cafe"+"030100"))
	at := 0
	for _, x := range []struct {
		number, size int
		want         string
	}{{head.BitString, 4, "0182"}, {head.Boolean, 3, "true"}, {head.Null, 2, ""}, {head.OctetString, 4, "cafe"}, {head.BitString, 3, ""}} {
		for _, r := range readers {
			if r.number == x.number {
				continue
			}
			if s, e := r.read(c); s != "" || e != api.ErrTag || c.At() != at {
				t.Error(r.number, x.number, s, e, c.At())
			}
		}
		at += x.size
		for _, r := range readers {
			if r.number != x.number {
				continue
			}
			if s, e := r.read(c); s != x.want || e != api.OK || c.At() != at {
				t.Error(x.number, s, e, c.At())
			}
		}
	}
}

// P5.4: the errors of Open, which come ahead of those of the contents.
func TestReadOpenErrors(t *testing.T) {
	for _, r := range readers {
		own := byte(r.number)
		for _, x := range []struct {
			b    []byte
			want api.Errno
		}{
			{nil, api.ErrEnd}, {[]byte{own}, api.ErrEnd}, {[]byte{own, 1}, api.ErrEnd}, {[]byte{own, 2, 9}, api.ErrEnd}, {[]byte{own, 0x82, 1}, api.ErrEnd}, {[]byte{own, 0x84, 1, 0, 0, 0, 9}, api.ErrEnd},
			{[]byte{own, 0x80}, api.ErrLen}, {[]byte{own, 0x80, 0, 0}, api.ErrLen}, {[]byte{own, 0x81, 1, 9}, api.ErrLen}, {[]byte{own, 0x81, 0}, api.ErrLen}, {[]byte{own, 0x85, 0, 0, 0, 0, 1, 9}, api.ErrLen},
			{[]byte{own, 0x84, 1, 0, 0, 1}, api.ErrLong}, {[]byte{own, 0x84, 255, 255, 255, 255}, api.ErrLong},
			{[]byte{own + 32, 1, 9}, api.ErrTag}, {[]byte{own + 64, 1, 9}, api.ErrTag}, {[]byte{own + 128, 1, 9}, api.ErrTag}, {[]byte{own + 192, 1, 9}, api.ErrTag}, {[]byte{0x30, 0}, api.ErrTag}, {[]byte{0x0a, 1, 0}, api.ErrTag}, {[]byte{0x0a, 7}, api.ErrTag}, {[]byte{0, 0}, api.ErrTag},
			{[]byte{0x1f, own, 1, 9}, api.ErrTag}, {[]byte{0x1f, 0x80}, api.ErrTag}, {[]byte{0x0a, 0x80}, api.ErrLen}, {[]byte{0x0a}, api.ErrEnd},
		} {
			r.stays(t, x.b, x.want)
		}
		if s, e := r.read(nil); s != "" || e != api.ErrState {
			t.Error(r.number, s, e)
		}
		if s, e := r.read(new(octet.Cursor)); s != "" || e != api.ErrEnd {
			t.Error(r.number, s, e)
		}
	}
}

// P5.4: contents that are none of what is asked, and bytes behind the element, which do not count.
func TestReadContentsErrors(t *testing.T) {
	wrong := [][]string{
		{"0300", "030101", "030107", "030108", "03020101", "03020880", "030207c0", "0302ff00", "0303018001", "0300" + "00", "030101" + "00", "0381820101" + octet.Hex(make([]byte, 127)) + "01" + "00"},
		{"0100", "010101", "01017f", "010180", "0101fe", "01020000", "0102ffff", "010200ff", "0102ff00", "0103ffffff", "0100" + "ff", "0100" + "00"},
		{"050100", "0501ff", "05020500", "05020000", "058180" + octet.Hex(make([]byte, 128))},
		nil,
	}
	for i, r := range readers {
		for _, hex := range wrong[i] {
			r.stays(t, raw(t, hex), api.ErrForm)
			r.stays(t, raw(t, hex+"0101ff"), api.ErrForm)
		}
	}
	for x := range 256 {
		if x != 0 && x != 255 {
			readers[1].stays(t, []byte{1, 1, byte(x)}, api.ErrForm)
		}
		readers[2].stays(t, []byte{5, 1, byte(x)}, api.ErrForm)
	}
}

// P5.4: the error of Contents ahead of that of Wrap.
func TestWriteTooLong(t *testing.T) {
	long := make([]byte, api.MaxInput+1)
	long[len(long)-1] = 0x80
	for _, x := range []struct {
		unused, size int
		want         api.Errno
	}{
		{7, api.MaxInput + 1, api.ErrLong}, {0, api.MaxInput, api.ErrLong}, {7, api.MaxInput, api.ErrLong}, {0, api.MaxInput - 1, api.OK}, {3, api.MaxInput - 1, api.OK},
		{8, api.MaxInput + 1, api.ErrArg}, {-1, api.MaxInput + 1, api.ErrArg},
	} {
		b, e := bits.Write(bits.String{Unused: x.unused, Bytes: long[len(long)-x.size:]})
		if e != x.want || e != api.OK && len(b) != 0 {
			t.Error(x, len(b), e)
		}
		if e != api.OK {
			continue
		}
		if len(b) != api.MaxInput+6 {
			t.Error(x, len(b))
		}
		if s, e := bits.Read(octet.New(b)); e != api.OK || s.Unused != x.unused || len(s.Bytes) != x.size {
			t.Error(x, len(s.Bytes), e)
		}
	}
	long[len(long)-1] = 1
	if b, e := bits.Write(bits.String{Unused: 1, Bytes: long}); len(b) != 0 || e != api.ErrArg {
		t.Error(len(b), e)
	}
	if b, e := bits.WriteOctets(long); len(b) != 0 || e != api.ErrLong {
		t.Error(len(b), e)
	}
}

// P5.5: arguments are not changed, not even behind their ends, and results are new memory.
func TestWriteMemory(t *testing.T) {
	back := []byte{0x82, 7, 7}
	s := bits.String{Unused: 1, Bytes: back[:1]}
	write := []func() []byte{
		func() []byte { b, _ := bits.Write(s); return b },
		func() []byte { b, _ := bits.WriteOctets(back[:1]); return b },
		func() []byte { return bits.WriteBool(true) },
		bits.WriteNull,
	}
	for i, want := range []string{"03020182", "040182", "0101ff", "0500"} {
		a, b := write[i](), write[i]()
		a = append(a, 9)
		for k := range a {
			a[k] = 9
		}
		if !bytes.Equal(back, []byte{0x82, 7, 7}) || octet.Hex(b) != want || octet.Hex(write[i]()) != want {
			t.Error(want, back, octet.Hex(b))
		}
	}
	a, _ := bits.Write(s)
	b, _ := bits.WriteOctets(back[:1])
	back[0] = 0
	if octet.Hex(a) != "03020182" || octet.Hex(b) != "040182" {
		t.Error("the argument is retained", octet.Hex(a), octet.Hex(b))
	}
}

// P5.5: what is read shares nothing with the cursor's bytes, nor with what is read once more.
func TestReadMemory(t *testing.T) {
	c := octet.New(raw(t, "03020182"+"0402cafe"))
	s, _ := bits.Read(c)
	b, _ := bits.ReadOctets(c)
	s.Bytes[0], b[0] = 9, 9
	c.Back(0)
	s, e := bits.Read(c)
	if e != api.OK || octet.Hex(s.Bytes) != "82" {
		t.Error(s, e)
	}
	b, e = bits.ReadOctets(c)
	if e != api.OK || octet.Hex(b) != "cafe" {
		t.Error(b, e)
	}
}
