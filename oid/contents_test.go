package oid_test

import (
	"bytes"
	"encoding/asn1"
	"slices"
	"strings"
	"testing"

	"quittance/api"
	"quittance/octet"
	"quittance/oid"
)

// P4.1, P4.2: the chapter's examples, and the edges of the first number and of the count of digits.
func TestContentsAndParse(t *testing.T) {
	for _, x := range []struct {
		o   []int
		hex string
	}{
		{[]int{1, 2, 840, 113549}, "2a864886f70d"}, {[]int{2, 5, 29, 20}, "551d14"}, {[]int{2, 999}, "8837"},
		{[]int{0, 0}, "00"}, {[]int{0, 1}, "01"}, {[]int{0, 39}, "27"}, {[]int{1, 0}, "28"}, {[]int{1, 39}, "4f"}, {[]int{2, 0}, "50"}, {[]int{2, 1}, "51"},
		{[]int{2, 39}, "77"}, {[]int{2, 40}, "78"}, {[]int{2, 47}, "7f"}, {[]int{2, 48}, "8100"}, {[]int{2, 16303}, "ff7f"}, {[]int{2, 16304}, "818000"},
		{[]int{2, top - 81}, "87ffffff7e"}, {[]int{2, top - 80}, "87ffffff7f"}, {[]int{2, top - 80, 0}, "87ffffff7f00"},
		{[]int{0, 0, 0}, "0000"}, {[]int{0, 0, 127}, "007f"}, {[]int{0, 0, 128}, "008100"}, {[]int{0, 0, 129}, "008101"}, {[]int{0, 0, 255}, "00817f"}, {[]int{0, 0, 256}, "008200"},
		{[]int{0, 0, 16383}, "00ff7f"}, {[]int{0, 0, 16384}, "00818000"}, {[]int{0, 0, 2097151}, "00ffff7f"}, {[]int{0, 0, 2097152}, "0081808000"},
		{[]int{0, 0, 268435455}, "00ffffff7f"}, {[]int{0, 0, 268435456}, "008180808000"}, {[]int{0, 0, top - 1}, "0087ffffff7e"}, {[]int{0, 0, top}, "0087ffffff7f"},
		{[]int{1, 2, 0, 128, 0, 1}, "2a0081000001"}, {[]int{1, 2, top, top}, "2a87ffffff7f87ffffff7f"},
		{append([]int{0, 0}, make([]int, 29)...), strings.Repeat("00", 30)}, {append([]int{0, 0}, make([]int, 30)...), strings.Repeat("00", 31)},
	} {
		if b, e := oid.Contents(x.o); e != api.OK || octet.Hex(b) != x.hex {
			t.Error(x.o, octet.Hex(b), e)
		}
		if o, e := oid.Parse(raw(t, x.hex)); e != api.OK || !slices.Equal(o, x.o) {
			t.Error(x.hex, o, e)
		}
	}
}

// P4.1, P4.2, P4.3, P4.6: what is written is what the library writes, is read as it was, and is each time different.
func TestThereAndBack(t *testing.T) {
	seen := map[string][]int{}
	for _, o := range oids() {
		b, e := oid.Contents(o)
		if e != api.OK {
			t.Fatal(o, e)
		}
		if other, ok := seen[string(b)]; ok && !slices.Equal(o, other) {
			t.Errorf("%v and %v are both %x", o, other, b)
		}
		seen[string(b)] = o
		if p, e := oid.Parse(b); e != api.OK || !slices.Equal(p, o) {
			t.Errorf("Parse(%x) = %v, %d, want %v", b, p, e, o)
		}
		element, e := oid.Write(o)
		if want, err := asn1.Marshal(asn1.ObjectIdentifier(o)); err != nil || e != api.OK || !bytes.Equal(element, want) {
			t.Errorf("Write(%v) = %x, %d, want %x, %v", o, element, e, want, err)
		}
		if must := oid.Must(o...); !bytes.Equal(must, element) {
			t.Errorf("Must(%v) = %x", o, must)
		}
		c := octet.New(append(bytes.Clone(element), 6, 1, 0))
		if p, e := oid.Read(c); e != api.OK || !slices.Equal(p, o) || c.At() != len(element) {
			t.Error("Read", o, p, e, c.At())
		}
	}
}

// P4.1, P4.3: what is no oid has no contents and no element.
func TestWrongOidsAreNotWritten(t *testing.T) {
	for _, o := range wrongOids() {
		if b, e := oid.Contents(o); len(b) != 0 || e != api.ErrArg {
			t.Error("Contents", o, b, e)
		}
		if b, e := oid.Write(o); len(b) != 0 || e != api.ErrArg {
			t.Error("Write", o, b, e)
		}
		if b := oid.Must(o...); len(b) != 0 {
			t.Error("Must", o, b)
		}
	}
}

// P4.3
func TestMust(t *testing.T) {
	if b := oid.Must(2, 5, 29, 20); octet.Hex(b) != "0603551d14" {
		t.Errorf("%x", b)
	}
	if b := oid.Must(1, 2); octet.Hex(b) != "06012a" {
		t.Errorf("%x", b)
	}
	if b := oid.Must(long(32)...); len(b) != 3+1+30*5 || octet.Hex(b[:4]) != "06819755" {
		t.Errorf("%x", b)
	}
	for _, b := range [][]byte{oid.Must(), oid.Must(1), oid.Must(3, 1), oid.Must(1, 40), oid.Must(1, -1), oid.Must(long(33)...)} {
		if len(b) != 0 {
			t.Errorf("%x", b)
		}
	}
}

// wrongContents are contents that are no oid's, with the error that comes first.
func wrongContents() map[string]api.Errno {
	full := strings.Repeat("00", 31) // 32 numbers
	return map[string]api.Errno{
		"":   api.ErrForm,
		"80": api.ErrForm, "8001": api.ErrForm, "8080": api.ErrForm, "80ff": api.ErrForm, "808801": api.ErrForm, // a first digit 0 in the first number
		"81": api.ErrForm, "ff": api.ErrForm, "8180": api.ErrForm, "ffff": api.ErrForm, "ffffffff": api.ErrForm, "87ffffff": api.ErrForm, "87ffffffff": api.ErrForm, "8780808080": api.ErrForm, // no last digit
		"8880808000": api.ErrLong, "8880808080": api.ErrLong, "8880808001": api.ErrLong, "8fffffff7f": api.ErrLong, "ffffffff7f": api.ErrLong, "ffffffffff": api.ErrLong, "ffffffffffff": api.ErrLong, // ahead of the missing last digit
		"818080808000": api.ErrLong, "8180808080": api.ErrForm, "818080808080": api.ErrLong, "87ffffffff7f": api.ErrLong, "87ffffff7f80": api.ErrForm,
		"2a80": api.ErrForm, "2a8001": api.ErrForm, "2a8000": api.ErrForm, "2a81": api.ErrForm, "2a8180": api.ErrForm, "2aff": api.ErrForm, "2a87ffffff": api.ErrForm, "2a87ffffffff": api.ErrForm,
		"2a8880808000": api.ErrLong, "2a8880808080": api.ErrLong, "2affffffffff": api.ErrLong, "2a81808080808000": api.ErrLong,
		"2a018001": api.ErrForm, "2a888080800080": api.ErrLong, "2a01808880808000": api.ErrForm, "2a0188808080008001": api.ErrLong, // number by number: the first wrong one tells
		full + "00": api.ErrLong, full + "0000": api.ErrLong, full + "8101": api.ErrLong, full + "87ffffff7f": api.ErrLong, // the 33rd number
		full + "80": api.ErrForm, full + "8001": api.ErrForm, full + "81": api.ErrForm, full + "ff": api.ErrForm, // its own error ahead of the count
		full + "8880808000": api.ErrLong, full + "ffffffffff": api.ErrLong,
		full + "0080": api.ErrLong, full + "0081": api.ErrLong, full + "008001": api.ErrLong, // the count ahead of the 34th number
		full[2:] + "80": api.ErrForm, full[2:] + "81": api.ErrForm, full[2:] + "8001": api.ErrForm,
		full[2:] + "87ffffff7f00": api.ErrLong,
	}
}

// P4.2
func TestParseErrors(t *testing.T) {
	for hex, want := range wrongContents() {
		if o, e := oid.Parse(raw(t, hex)); len(o) != 0 || e != want {
			t.Errorf("Parse(%s) = %v, %d, want %d", hex, o, e, want)
		}
	}
	if o, e := oid.Parse(nil); len(o) != 0 || e != api.ErrForm {
		t.Error(o, e)
	}
	for _, b := range [][]byte{make([]byte, 32), make([]byte, 1<<20), bytes.Repeat([]byte{0xff}, 1<<20), bytes.Repeat([]byte{0x81, 0}, 1<<20)} {
		if o, e := oid.Parse(b); len(o) != 0 || e != api.ErrLong {
			t.Error(len(b), o, e)
		}
	}
}

// parse says P4.2 once more, word by word.
func parse(b []byte) ([]int, api.Errno) {
	if len(b) == 0 {
		return nil, api.ErrForm
	}
	var o []int
	number, first := uint64(0), true
	for i, x := range b {
		if first && x == 128 {
			return nil, api.ErrForm
		}
		number = number<<7 | uint64(x&127)
		if number > 2147483647 {
			return nil, api.ErrLong
		}
		if x&128 != 0 {
			if i+1 == len(b) {
				return nil, api.ErrForm
			}
			first = false
			continue
		}
		switch {
		case len(o) > 0:
			o = append(o, int(number))
		case number >= 80:
			o = append(o, 2, int(number)-80)
		case number >= 40:
			o = append(o, 1, int(number)-40)
		default:
			o = append(o, 0, int(number))
		}
		if len(o) > 32 {
			return nil, api.ErrLong
		}
		number, first = 0, true
	}
	return o, api.OK
}

// P4.2, P4.6: all short byte strings of the bytes that matter; what is read is written as it was, so that no oid has two contents.
func TestParseAll(t *testing.T) {
	some := []byte{0x00, 0x27, 0x28, 0x4f, 0x50, 0x7f, 0x80, 0x81, 0x87, 0x88, 0xff}
	var all func(b []byte, more int)
	all = func(b []byte, more int) {
		o, e := oid.Parse(b)
		if want, f := parse(b); e != f || !slices.Equal(o, want) {
			t.Errorf("Parse(%x) = %v, %d, want %v, %d", b, o, e, want, f)
		}
		if e == api.OK {
			if again, f := oid.Contents(o); f != api.OK || !bytes.Equal(again, b) {
				t.Errorf("%x is %v, which is %x, %d", b, o, again, f)
			}
		}
		for _, x := range some {
			if more > 0 {
				all(append(b, x), more-1)
			}
		}
	}
	all(nil, 5)
	for _, front := range []int{29, 30, 31} {
		all(make([]byte, front), 3)
	}
	for _, front := range []string{"2a87ffff", "87ffffff", "2a81808080", "2a8080"} {
		all(raw(t, front), 3)
	}
}

// P4.2: every single byte, and every pair.
func TestParseBytes(t *testing.T) {
	for x := range 1 << 16 {
		for _, b := range [][]byte{{byte(x)}, {byte(x >> 8), byte(x)}} {
			o, e := oid.Parse(b)
			if want, f := parse(b); e != f || !slices.Equal(o, want) {
				t.Errorf("Parse(%x) = %v, %d, want %v, %d", b, o, e, want, f)
			}
		}
	}
}

// P4.3
func TestRead(t *testing.T) {
	c := octet.New(raw(t, "0603551d1406012a06028837"))
	for _, want := range []string{"2.5.29.20", "1.2", "2.999"} {
		o, e := oid.Read(c)
		if s, f := oid.Text(o); e != api.OK || f != api.OK || s != want {
			t.Error(s, e, f)
		}
	}
	if o, e := oid.Read(c); len(o) != 0 || e != api.ErrEnd || c.At() != 12 {
		t.Error(o, e, c.At())
	}
}

// P4.3: the error of Open ahead of that of Parse; with either one the cursor stays.
func TestReadErrors(t *testing.T) {
	wrong := map[string]api.Errno{
		"": api.ErrEnd, "06": api.ErrEnd, "0601": api.ErrEnd, "0602" + "2a": api.ErrEnd, "0601" + "80": api.ErrForm, "0602" + "80": api.ErrEnd, "068101": api.ErrLen, "0680": api.ErrLen, "068401000001": api.ErrLong, "068400ffffff": api.ErrLen, "06840100000080": api.ErrEnd,
		"0203551d14": api.ErrTag, "0403551d14": api.ErrTag, "2603551d14": api.ErrTag, "4603551d14": api.ErrTag, "8603551d14": api.ErrTag, "1f0603551d14": api.ErrTag, "3003551d14": api.ErrTag, "0d0180": api.ErrTag,
		"0600": api.ErrForm, "0600" + "2a": api.ErrForm, "0601" + "81" + "00": api.ErrForm, // the byte behind the element does not count
	}
	for hex, want := range wrongContents() {
		wrong["06"+octet.Hex([]byte{byte(len(hex) / 2)})+hex] = want
	}
	for hex, want := range wrong {
		for _, before := range []int{0, 1, 5} {
			c := octet.New(append(make([]byte, before), raw(t, hex)...))
			c.Take(before)
			for range 2 {
				if o, e := oid.Read(c); len(o) != 0 || e != want || c.At() != before {
					t.Error(hex, o, e, c.At())
				}
			}
		}
	}
	if o, e := oid.Read(nil); len(o) != 0 || e != api.ErrState {
		t.Error(o, e)
	}
}
