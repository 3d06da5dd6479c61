package bits_test

import (
	"bytes"
	"encoding/asn1"
	"testing"

	"quittance/api"
	"quittance/bits"
	"quittance/head"
	"quittance/octet"
)

// P5.1, P5.5
func TestContentsAndParse(t *testing.T) {
	for _, s := range bitStrings() {
		b, e := bits.Contents(s)
		if want := append([]byte{byte(s.Unused)}, s.Bytes...); e != api.OK || !bytes.Equal(b, want) {
			t.Error("Contents", s, b, e)
		}
		if back, e := bits.Parse(b); e != api.OK || !same(back, s) {
			t.Error("Parse", b, back, e)
		}
	}
	for _, s := range wrongStrings() {
		if b, e := bits.Contents(s); len(b) != 0 || e != api.ErrArg {
			t.Error("Contents", s, b, e)
		}
	}
}

// P5.1: contents have no limit of their own.
func TestContentsLong(t *testing.T) {
	s := bits.String{Unused: 4, Bytes: make([]byte, api.MaxInput+5)}
	b, e := bits.Contents(s)
	if e != api.OK || len(b) != api.MaxInput+6 || b[0] != 4 {
		t.Error(len(b), e)
	}
	if back, e := bits.Parse(b); e != api.OK || !same(back, s) {
		t.Error(len(back.Bytes), e)
	}
}

// P5.1, with the chapter's examples.
func TestParseByHand(t *testing.T) {
	for hex, want := range map[string]api.Errno{
		"": api.ErrForm, "00": api.OK, "01": api.ErrForm, "07": api.ErrForm, "08": api.ErrForm, "80": api.ErrForm, "ff": api.ErrForm,
		"0080": api.OK, "0000": api.OK, "00ff": api.OK, "0101": api.ErrForm, "0180": api.OK, "0182": api.OK, "0183": api.ErrForm, "0780": api.OK, "0700": api.OK, "07c0": api.ErrForm, "0781": api.ErrForm, "0880": api.ErrForm, "0800": api.ErrForm, "0900": api.ErrForm, "ff00": api.ErrForm, "8000": api.ErrForm, "1000": api.ErrForm,
		"030108": api.OK, "030804": api.ErrForm, "0308ff": api.ErrForm, "08000000": api.ErrForm,
	} {
		s, e := bits.Parse(raw(t, hex))
		if e != want || e != api.OK && !none(s) {
			t.Error(hex, s, e)
		}
		if e == api.OK {
			if b, f := bits.Contents(s); f != api.OK || octet.Hex(b) != hex {
				t.Error(hex, octet.Hex(b), f)
			}
		}
	}
	if s, e := bits.Parse(nil); !none(s) || e != api.ErrForm {
		t.Error(s, e)
	}
}

// P5.1, P5.5: all contents of up to two bytes and all last bytes of longer ones, as the library reads them; what is read is written as it was.
func TestParseAsTheLibrary(t *testing.T) {
	check := func(b ...byte) {
		s, e := bits.Parse(b)
		element, _ := head.Wrap(head.Of(head.BitString), b)
		var other asn1.BitString
		if _, err := asn1.Unmarshal(element, &other); err != nil {
			if e != api.ErrForm || !none(s) {
				t.Errorf("Parse(%x) = %v, %d", b, s, e)
			}
			return
		}
		if e != api.OK || !bytes.Equal(s.Bytes, other.Bytes) || bits.Len(s) != other.BitLength || !bits.Right(s) {
			t.Errorf("Parse(%x) = %v, %d, want %v", b, s, e, other)
		}
		if again, f := bits.Contents(s); f != api.OK || !bytes.Equal(again, b) {
			t.Errorf("%x is written as %x, %d", b, again, f)
		}
	}
	check()
	for first := range 256 {
		check(byte(first))
		for last := range 256 {
			check(byte(first), byte(last))
			check(byte(first), 0, byte(last))
			check(byte(first), 255, 1, 2, 3, byte(last))
		}
	}
}

// P5.4: all contents of one byte, none, and more.
func TestParseBool(t *testing.T) {
	for x := range 256 {
		want, form := x == 255, api.ErrForm
		if x == 0 || x == 255 {
			form = api.OK
		}
		if got, e := bits.ParseBool([]byte{byte(x)}); got != want || e != form {
			t.Error(x, got, e)
		}
	}
	for _, b := range [][]byte{nil, {}, {0, 0}, {255, 255}, {0, 255}, {255, 0}, {255, 255, 255}, make([]byte, 1000), bytes.Repeat([]byte{255}, 1000)} {
		if got, e := bits.ParseBool(b); got || e != api.ErrForm {
			t.Error(b, got, e)
		}
	}
}

// P5.5: arguments are not changed, not even behind their ends, and results are new memory.
func TestContentsMemory(t *testing.T) {
	in := []byte{1, 0x82, 7, 7}
	a, _ := bits.Parse(in[:2])
	b, _ := bits.Parse(in[:2])
	a.Bytes = append(a.Bytes, 9)
	a.Bytes[0] = 9
	if !bytes.Equal(in, []byte{1, 0x82, 7, 7}) || b.Bytes[0] != 0x82 {
		t.Error(in, b)
	}
	in[1] = 0
	if b.Bytes[0] != 0x82 {
		t.Error("the argument is retained", b)
	}
	back := []byte{0x82, 7, 7}
	s := bits.String{Unused: 1, Bytes: back[:1]}
	x, _ := bits.Contents(s)
	y, _ := bits.Contents(s)
	x = append(x, 9)
	x[0], x[1] = 9, 9
	if !bytes.Equal(back, []byte{0x82, 7, 7}) || octet.Hex(y) != "0182" {
		t.Error(back, octet.Hex(y))
	}
	back[0] = 0
	if octet.Hex(y) != "0182" {
		t.Error("the argument is retained", octet.Hex(y))
	}
	truth := []byte{255, 7}
	bits.ParseBool(truth[:1])
	if !bytes.Equal(truth, []byte{255, 7}) {
		t.Error(truth)
	}
}
