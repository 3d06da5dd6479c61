package text_test

import (
	"bytes"
	"encoding/asn1"
	"slices"
	"strings"
	"testing"

	"quittance/api"
	"quittance/head"
	"quittance/octet"
	"quittance/text"
)

// stays checks that reading fails with that error, twice, and that the cursor stays, wherever the bytes begin.
func stays(t *testing.T, b []byte, want api.Errno, numbers ...int) {
	t.Helper()
	for _, before := range []int{0, 1, 5} {
		c := octet.New(append(make([]byte, before), b...))
		c.Take(before)
		for range 2 {
			if x, e := text.Read(c, numbers...); !none(x) || e != want || c.At() != before {
				t.Errorf("%x with %v: %v, %d at %d, want %d at %d", b, numbers, x, e, c.At(), want, before)
			}
		}
	}
}

// texts returns valid texts of each kind: no characters, each edge alone and before others, and lengths around those of the length's encoding.
func texts(t *testing.T) []text.Text {
	var all []text.Text
	for _, kind := range kinds {
		all = append(all, text.Text{Kind: kind}, text.Text{Kind: kind, Bytes: []byte{}})
		for _, sign := range edgeSigns {
			if mayHave(kind, sign) {
				for _, l := range [][]int{{sign}, {sign, 65}, {65, sign, sign}} {
					x, e := text.Of(kind, l...)
					if e != api.OK {
						t.Fatal(kind, l, e)
					}
					all = append(all, x)
				}
			}
		}
		for _, n := range []int{126, 128, 254, 256, 65534, 65536} {
			all = append(all, text.Text{Kind: kind, Bytes: bytes.Repeat([]byte("ab"), n/2)})
		}
	}
	return all
}

// P6.3, P6.5: what is written is what the library writes, and is read as it was, whichever kinds are asked for beside its own.
func TestWriteAndRead(t *testing.T) {
	for _, x := range texts(t) {
		b, e := text.Write(x)
		want, err := asn1.Marshal(asn1.RawValue{Tag: x.Kind, Bytes: x.Bytes})
		if err != nil || e != api.OK || !bytes.Equal(b, want) {
			t.Fatalf("Write(%d, %x) = %x, %d, want %x, %v", x.Kind, x.Bytes, b, e, want, err)
		}
		for _, numbers := range [][]int{nil, {}, {x.Kind}, kinds, {5, x.Kind}, {x.Kind, -1}, {x.Kind, x.Kind}, {1 << 40, 16, x.Kind, 12}} {
			c := octet.New(octet.Join([]byte{9, 9}, b, []byte{19, 1, 65}))
			c.Take(2)
			if y, e := text.Read(c, numbers...); e != api.OK || !same(x, y) || c.At() != 2+len(b) {
				t.Error("Read", x.Kind, len(x.Bytes), numbers, y.Kind, e, c.At())
			}
		}
		others := slices.DeleteFunc(slices.Clone(kinds), func(kind int) bool { return kind == x.Kind })
		if y, e := text.Read(octet.New(b), others...); !none(y) || e != api.ErrTag {
			t.Error(x.Kind, y, e)
		}
	}
}

// P6.3: elements by hand, one after the other.
func TestReadOneAfterAnother(t *testing.T) {
	c := octet.New(raw(t, "0c02c3a9"+"1301411401e9"+"160140"+"1a0140"+"1e020041"+"1300"))
	for _, x := range []struct {
		kind  int
		bytes string
		at    int
	}{{12, "c3a9", 4}, {19, "41", 7}, {20, "e9", 10}, {22, "40", 13}, {26, "40", 16}, {30, "0041", 20}, {19, "", 22}} {
		if y, e := text.Read(c); e != api.OK || y.Kind != x.kind || octet.Hex(y.Bytes) != x.bytes || c.At() != x.at {
			t.Error(x, y, e, c.At())
		}
	}
	if y, e := text.Read(c); !none(y) || e != api.ErrEnd || c.At() != 22 {
		t.Error(y, e, c.At())
	}
}

// P6.3: every tag in one byte, of each class, constructed or not; only universal ones that are not constructed are texts.
func TestReadEveryTag(t *testing.T) {
	for x := range 256 {
		if x%32 == 31 {
			continue // more bytes of the tag follow
		}
		b := []byte{byte(x), 2, 'a', 'b'}
		all, asked := api.ErrTag, api.ErrTag
		switch {
		case slices.Contains(kinds, x):
			all, asked = api.OK, api.OK
		case x < 32:
			asked = api.ErrForm // a number that is no kind
		}
		for _, numbers := range [][]int{nil, kinds, {x % 32}, {12, 19, x % 32}, {x % 32, -5}} {
			want := all
			if slices.Contains(numbers, x%32) {
				want = asked
			}
			y, e := text.Read(octet.New(b), numbers...)
			if e != want || e == api.OK && (y.Kind != x || string(y.Bytes) != "ab") || e != api.OK && !none(y) {
				t.Error(x, numbers, y, e)
			}
		}
	}
}

// P6.3: numbers that are no kinds: another tag first, then too few bytes, then never a text.
func TestReadNumbersThatAreNoKinds(t *testing.T) {
	for _, x := range []struct {
		hex     string
		numbers []int
		want    api.Errno
	}{
		{"040141", []int{4}, api.ErrForm}, {"0400", []int{4}, api.ErrForm}, {"0500", []int{5}, api.ErrForm}, {"0000", []int{0}, api.ErrForm}, {"1c0400000041", []int{28}, api.ErrForm},
		{"1000", []int{16}, api.ErrForm}, {"1100", []int{17}, api.ErrForm}, {"3000", []int{16}, api.ErrTag}, {"3100", []int{17}, api.ErrTag}, // a Sequence and a Set are Made
		{"1f1f0141", []int{31}, api.ErrForm}, {"1f814900", []int{201}, api.ErrForm}, {"1f814900", []int{200}, api.ErrTag}, {"1fffff7f00", []int{1<<21 - 1}, api.ErrForm}, {"1f1f0141", nil, api.ErrTag},
		{"0405", []int{4}, api.ErrEnd}, {"0405", []int{5}, api.ErrTag}, {"0480", []int{4}, api.ErrLen}, {"04", []int{4}, api.ErrEnd},
		{"130141", []int{4}, api.ErrTag}, {"130141", []int{4, 5, -1}, api.ErrTag}, {"130141", []int{-1}, api.ErrTag}, {"130141", []int{1<<32 + 19}, api.ErrTag}, {"130141", []int{256 + 19}, api.ErrTag}, {"130141", []int{32 + 19}, api.ErrTag}, {"330141", []int{32 + 19}, api.ErrTag}, {"930141", []int{128 + 19}, api.ErrTag}, {"930141", []int{19}, api.ErrTag},
		{"040141", nil, api.ErrTag}, {"040141", kinds, api.ErrTag}, {"040141", []int{19, 4}, api.ErrForm},
	} {
		stays(t, raw(t, x.hex), x.want, x.numbers...)
	}
	for _, number := range farNumbers {
		stays(t, raw(t, "130141"), api.ErrTag, number)
		stays(t, raw(t, "0c0141"), api.ErrTag, number, number)
	}
}

// P6.3: the errors of Read of chapter 2 first, then the tag, then the bytes that are not there, then the contents.
func TestReadErrors(t *testing.T) {
	for _, kind := range kinds {
		own := byte(kind)
		for _, x := range []struct {
			b    []byte
			want api.Errno
		}{
			{nil, api.ErrEnd}, {[]byte{own}, api.ErrEnd}, {[]byte{own, 1}, api.ErrEnd}, {[]byte{own, 2, 'a'}, api.ErrEnd}, {[]byte{own, 2, 0xff}, api.ErrEnd}, {[]byte{own, 0x82, 1}, api.ErrEnd}, {[]byte{own, 0x84, 1, 0, 0, 0, 'a'}, api.ErrEnd},
			{[]byte{own, 0x80}, api.ErrLen}, {[]byte{own, 0x80, 0, 0}, api.ErrLen}, {[]byte{own, 0x81, 1, 'a'}, api.ErrLen}, {[]byte{own, 0x85, 0, 0, 0, 0, 1, 'a'}, api.ErrLen}, {[]byte{own, 0xff}, api.ErrLen},
			{[]byte{own, 0x84, 1, 0, 0, 1}, api.ErrLong}, {[]byte{own, 0x84, 255, 255, 255, 255}, api.ErrLong},
			{[]byte{own + 32, 2, 'a', 'a'}, api.ErrTag}, {[]byte{own + 64, 2, 'a', 'a'}, api.ErrTag}, {[]byte{own + 128, 2, 'a', 'a'}, api.ErrTag}, {[]byte{own + 192, 2, 'a', 'a'}, api.ErrTag}, {[]byte{own + 32, 9}, api.ErrTag}, {[]byte{own + 128, 9, 0xff}, api.ErrTag}, {[]byte{own + 32, 0x80}, api.ErrLen}, {[]byte{own + 128}, api.ErrEnd}, {[]byte{own + 128, 0x84, 1, 0, 0, 1}, api.ErrLong},
			{[]byte{0x1f, own, 2, 'a', 'a'}, api.ErrTag}, {[]byte{0x1f, 0x80}, api.ErrTag}, {[]byte{0x1f}, api.ErrEnd},
			{[]byte{4, 2, 'a', 'a'}, api.ErrTag}, {[]byte{0x30, 0}, api.ErrTag}, {[]byte{4, 9}, api.ErrTag}, {[]byte{4, 0x80}, api.ErrLen},
		} {
			stays(t, x.b, x.want)
			stays(t, x.b, x.want, kind)
			stays(t, x.b, x.want, kinds...)
		}
		for _, other := range kinds {
			if other != kind {
				stays(t, []byte{own, 2, 'a', 'a'}, api.ErrTag, other)
				stays(t, []byte{own, 9, 'a', 'a'}, api.ErrTag, other)
				stays(t, []byte{own, 1, 0xff}, api.ErrTag, other)
			}
		}
	}
	for _, numbers := range [][]int{nil, {12}, {5}, {-1}, kinds} {
		if x, e := text.Read(nil, numbers...); !none(x) || e != api.ErrState {
			t.Error(numbers, x, e)
		}
		if x, e := text.Read(new(octet.Cursor), numbers...); !none(x) || e != api.ErrEnd {
			t.Error(numbers, x, e)
		}
	}
}

// P6.3: contents that are no text of the kind; bytes behind the element do not count.
func TestReadContentsErrors(t *testing.T) {
	for _, hex := range []string{"0c01ff", "0c02c080", "0c03eda080", "0c01c3", "0c0180", "0c04f4908080", "130140", "13013b", "1302412a", "1301e9", "160180", "1601ff", "1603417f80", "1a011f", "1a017f", "1a0180", "1a0109", "1e0141", "1e03004100", "1e02d800", "1e02dfff", "1e04d83dde00"} {
		b := raw(t, hex)
		stays(t, b, api.ErrForm)
		stays(t, b, api.ErrForm, int(b[0]))
		stays(t, append(bytes.Clone(b), 0xa9, 0x41), api.ErrForm)
	}
}

// P6.3: what is not valid is not written, and that ahead of what is too long.
func TestWriteErrors(t *testing.T) {
	for _, kind := range kinds {
		long := bytes.Repeat([]byte("ab"), api.MaxInput/2+1)
		if b, e := text.Write(text.Text{Kind: kind, Bytes: long[:api.MaxInput]}); e != api.OK || len(b) != api.MaxInput+6 {
			t.Error(kind, len(b), e)
		} else if x, e := text.Read(octet.New(b)); e != api.OK || !bytes.Equal(x.Bytes, long[:api.MaxInput]) {
			t.Error(kind, len(x.Bytes), e)
		}
		if b, e := text.Write(text.Text{Kind: kind, Bytes: long}); len(b) != 0 || e != api.ErrLong {
			t.Error(kind, len(b), e)
		}
		long[len(long)-2], long[len(long)-1] = 0xd8, 0xff
		want := api.ErrForm
		if kind == head.Teletex {
			want = api.ErrLong
		}
		if b, e := text.Write(text.Text{Kind: kind, Bytes: long}); len(b) != 0 || e != want {
			t.Error(kind, len(b), e)
		}
		if b, e := text.Write(text.Text{Kind: 16, Bytes: long}); len(b) != 0 || e != api.ErrForm {
			t.Error(kind, len(b), e)
		}
	}
}

// P6.3, P6.4: what Least answers is written and read as it was.
func TestLeastIsWritten(t *testing.T) {
	for _, s := range []string{"", "CA", "a@b", "é", "\xe9", strings.Repeat("\xff", 300)} {
		b, e := text.Write(text.Least(s))
		x, f := text.Read(octet.New(b))
		if e != api.OK || f != api.OK || !same(x, text.Least(s)) {
			t.Errorf("%q: %x, %d, %v, %d", s, b, e, x, f)
		}
	}
}

// P6.5: arguments are not changed, not even behind their ends, and results are new memory.
func TestElementMemory(t *testing.T) {
	back := []byte{'a', 'b', 7, 7}
	x := text.Text{Kind: head.Ia5, Bytes: back[:2]}
	a, _ := text.Write(x)
	b, _ := text.Write(x)
	a = append(a, 9)
	clear(a)
	if octet.Hex(b) != "16026162" || !bytes.Equal(back, []byte{'a', 'b', 7, 7}) {
		t.Error(octet.Hex(b), back)
	}
	back[0] = 'z'
	if octet.Hex(b) != "16026162" {
		t.Error("the argument is retained", octet.Hex(b))
	}
	room := []int{22, 12, 5, 5}
	c := octet.New(b)
	y, _ := text.Read(c, room[:2]...)
	clear(y.Bytes)
	c.Back(0)
	z, e := text.Read(c, room[:2]...)
	if e != api.OK || string(z.Bytes) != "ab" || octet.Hex(b) != "16026162" || !slices.Equal(room, []int{22, 12, 5, 5}) {
		t.Error(z, e, b, room)
	}
	clear(b)
	c.Back(0)
	if z, e := text.Read(c); e != api.OK || string(z.Bytes) != "ab" {
		t.Error(z, e)
	}
}
