package clock_test

import (
	"bytes"
	"encoding/asn1"
	"encoding/hex"
	"testing"
	"time"

	"quittance/api"
	"quittance/clock"
	"quittance/date"
	"quittance/head"
	"quittance/octet"
)

// readers are the three calls that read a time, with the second alone for the last.
var readers = map[string]func(*octet.Cursor) (clock.Time, api.Errno){
	"Read":       clock.Read,
	"ReadStrict": clock.ReadStrict,
	"ReadGeneral": func(c *octet.Cursor) (clock.Time, api.Errno) {
		s, e := clock.ReadGeneral(c)
		return clock.Time{Second: s}, e
	},
}

// stays checks that a call fails with that error, twice, and that the cursor stays, wherever the bytes begin.
func stays(t *testing.T, call string, b []byte, want api.Errno) {
	t.Helper()
	for _, before := range []int{0, 1, 5} {
		c := octet.New(append(make([]byte, before), b...))
		c.Take(before)
		for range 2 {
			if x, e := readers[call](c); x != (clock.Time{}) || e != want || c.At() != before {
				t.Errorf("%s(%q) = %v, %d at %d, want %d at %d", call, b, x, e, c.At(), want, before)
			}
		}
	}
}

// reads checks that a call returns that time, and moves past it alone.
func reads(t *testing.T, call string, b []byte, want clock.Time) {
	t.Helper()
	c := octet.New(octet.Join([]byte{9, 9}, b, []byte{23, 1, 'Z'}))
	c.Take(2)
	if call == "ReadGeneral" {
		want.Kind = 0
	}
	if x, e := readers[call](c); e != api.OK || x != want || c.At() != 2+len(b) {
		t.Errorf("%s(%q) = %v, %d at %d, want %v at %d", call, b, x, e, c.At(), want, 2+len(b))
	}
}

// readAll checks what the three calls make of an element that is a valid time.
func readAll(t *testing.T, b []byte, x clock.Time) {
	t.Helper()
	reads(t, "Read", b, x)
	if x.Kind == kindOf(x.Second) {
		reads(t, "ReadStrict", b, x)
	} else {
		stays(t, "ReadStrict", b, api.ErrForm)
	}
	if x.Kind == general {
		reads(t, "ReadGeneral", b, x)
	} else {
		stays(t, "ReadGeneral", b, api.ErrTag)
	}
}

// element returns the element of a one-byte tag with these contents.
func element(tag int, contents string) []byte {
	return append([]byte{byte(tag), byte(len(contents))}, contents...)
}

// P10.3, P10.4: what is written is what the library writes, and is read as it was; a GeneralTime of the years of UtcTime not strictly.
func TestWriteAndRead(t *testing.T) {
	for i, s := range dated() {
		for _, x := range []clock.Time{in(utc, s), in(general, s)} {
			b, e := clock.Write(x)
			if !right(x) {
				if e != api.ErrArg || len(b) != 0 {
					t.Fatal(x, b, e)
				}
				continue
			}
			if e != api.OK || !bytes.Equal(b, element(x.Kind, told(x))) {
				t.Fatalf("Write(%v) = %q, %d", x, b, e)
			}
			if i%5 == 0 || i < 50 {
				readAll(t, b, x)
			}
		}
	}
}

// P10.3: the library's DER of both kinds.
func TestWriteAsTheLibrary(t *testing.T) {
	for _, s := range []int{firstUtc, lastUtc, 0, -1, 951868800, date.Last, date.First, firstUtc - 1, lastUtc + 1} {
		for kind, params := range map[int]string{utc: "utc", general: "generalized"} {
			if x := in(kind, s); right(x) {
				want, err := asn1.MarshalWithParams(time.Unix(int64(s), 0).UTC(), params)
				if b, e := clock.Write(x); err != nil || e != api.OK || !bytes.Equal(b, want) {
					t.Errorf("Write(%v) = %x, %d, want %x, %v", x, b, e, want, err)
				}
			}
		}
	}
}

// P10.3: elements by hand: the edges of the years, each read one after the other.
func TestReadByHand(t *testing.T) {
	for _, x := range []struct {
		hex  string
		time clock.Time
	}{
		{"170d3530303130313030303030305a", in(utc, firstUtc)}, {"170d3439313233313233353935395a", in(utc, lastUtc)}, {"170d3730303130313030303030305a", in(utc, 0)},
		{"180f31393530303130313030303030305a", in(general, firstUtc)}, {"180f31393439313233313233353935395a", in(general, firstUtc-1)}, {"180f32303439313233313233353935395a", in(general, lastUtc)}, {"180f32303530303130313030303030305a", in(general, lastUtc+1)},
		{"180f30303030303130313030303030305a", in(general, date.First)}, {"180f39393939313233313233353935395a", in(general, date.Last)},
	} {
		b, err := hex.DecodeString(x.hex)
		if err != nil {
			t.Fatal(err)
		}
		readAll(t, b, x.time)
		if w, e := clock.Write(x.time); e != api.OK || !bytes.Equal(w, b) {
			t.Errorf("%x %d, want %x", w, e, b)
		}
	}
	c := octet.New(octet.Join(element(utc, "500101000000Z"), element(general, "20490101000000Z"), element(general, "20500101000000Z")))
	if x, e := clock.ReadStrict(c); e != api.OK || x != in(utc, firstUtc) || c.At() != 15 {
		t.Error(x, e, c.At())
	}
	if x, e := clock.ReadStrict(c); e != api.ErrForm || x != (clock.Time{}) || c.At() != 15 {
		t.Error(x, e, c.At())
	}
	if x, e := clock.Read(c); e != api.OK || x.Kind != general || c.At() != 32 {
		t.Error(x, e, c.At())
	}
	if s, e := clock.ReadGeneral(c); e != api.OK || s != lastUtc+1 || c.At() != 49 {
		t.Error(s, e, c.At())
	}
	if x, e := clock.Read(c); e != api.ErrEnd || x != (clock.Time{}) || c.At() != 49 {
		t.Error(x, e, c.At())
	}
}

// P10.3: every tag in one byte, of each class, Made or not: the universal ones of the kinds alone, not Made, are times.
func TestReadEveryTag(t *testing.T) {
	for tag := range 256 {
		if tag%32 == 31 {
			continue // more bytes of the tag follow
		}
		for _, s := range []string{"500101000000Z", "20500101000000Z", "", "x"} {
			b := element(tag, s)
			if tag != utc && tag != general {
				for call := range readers {
					stays(t, call, b, api.ErrTag)
				}
				continue
			}
			if x, ok := meant(tag, s); ok {
				readAll(t, b, x)
				continue
			}
			stays(t, "Read", b, api.ErrForm)
			stays(t, "ReadStrict", b, api.ErrForm)
			if tag == general {
				stays(t, "ReadGeneral", b, api.ErrForm)
			}
		}
	}
	for _, far := range [][]byte{{0x1f, 0x37}, {0x1f, 0x38}, {0x1f, 0x81, 0x17}, {0x1f, 0x81, 0x98, 0x18}, {0x9f, 0x37}} {
		for call := range readers {
			stays(t, call, append(far, element(0, "500101000000Z")[1:]...), api.ErrTag) // 55 and the like, which are the kinds if they are cut to 5 bits
		}
	}
}

// P10.3: the errors of Read of chapter 2 first, then the tag, then the bytes that are not there, then the contents.
func TestReadErrors(t *testing.T) {
	for _, own := range []byte{utc, general} {
		for _, x := range []struct {
			b    []byte
			want api.Errno
		}{
			{nil, api.ErrEnd}, {[]byte{own}, api.ErrEnd}, {[]byte{own, 0x82, 1}, api.ErrEnd}, {[]byte{own, 0x80}, api.ErrLen}, {[]byte{own, 0x80, 0, 0}, api.ErrLen}, {[]byte{own, 0xff}, api.ErrLen}, {append([]byte{own, 0x81, 13}, "500101000000Z"...), api.ErrLen}, {append([]byte{own, 0x82, 0, 15}, "20500101000000Z"...), api.ErrLen}, {append([]byte{own, 0x85, 0, 0, 0, 0, 13}, "500101000000Z"...), api.ErrLen},
			{[]byte{own, 0x84, 1, 0, 0, 1}, api.ErrLong}, {[]byte{own, 0x84, 255, 255, 255, 255}, api.ErrLong},
			{[]byte{own + 32, 0x80}, api.ErrLen}, {[]byte{own + 128}, api.ErrEnd}, {[]byte{own + 128, 0x84, 1, 0, 0, 1}, api.ErrLong},
			{[]byte{own + 32, 9}, api.ErrTag}, {[]byte{own + 64, 9, 'x'}, api.ErrTag}, {[]byte{own + 128, 13}, api.ErrTag}, {[]byte{own + 192, 0}, api.ErrTag}, {[]byte{own - 2, 13, 'x'}, api.ErrTag}, {[]byte{own + 2, 13, 'x'}, api.ErrTag}, {[]byte{0x30, 0}, api.ErrTag}, {[]byte{4, 9}, api.ErrTag}, {[]byte{4, 0x80}, api.ErrLen},
			{[]byte{0x1f, own, 0}, api.ErrTag}, {[]byte{0x1f, 0x80}, api.ErrTag}, {[]byte{0x1f}, api.ErrEnd}, {[]byte{0x1f, 0x81}, api.ErrEnd},
		} {
			for call := range readers {
				stays(t, call, x.b, x.want)
			}
		}
	}
	for call, read := range readers {
		if x, e := read(nil); e != api.ErrState || x != (clock.Time{}) {
			t.Error(call, x, e)
		}
		if x, e := read(new(octet.Cursor)); e != api.ErrEnd || x != (clock.Time{}) {
			t.Error(call, x, e)
		}
	}
}

// P10.3: fewer bytes than the length says, whatever is there; then contents that are none.
func TestReadShort(t *testing.T) {
	for kind, l := range bases {
		for _, s := range l {
			whole := element(kind, s)
			for n := range len(whole) {
				stays(t, "Read", whole[:n], api.ErrEnd)
				stays(t, "ReadStrict", whole[:n], api.ErrEnd)
				want := api.ErrEnd
				if kind == utc && n > 1 {
					want = api.ErrTag
				}
				stays(t, "ReadGeneral", whole[:n], want)
			}
		}
		stays(t, "Read", []byte{byte(kind), 13, 'x'}, api.ErrEnd)
		stays(t, "Read", []byte{byte(kind), 13}, api.ErrEnd)
		stays(t, "ReadStrict", []byte{byte(kind), 0x84, 1, 0, 0, 0, 'Z'}, api.ErrEnd)
	}
	for _, s := range []string{"", "Z", "4912312359Z", "491231235959z", "491231235960Z", "490229000000Z", "20490229000000Z", "20491231235959.5Z", "491231235959+0000", "500101000000Z0", "20500101000000ZZ"} {
		for call := range readers {
			stays(t, call, element(general, s), api.ErrForm)
		}
		stays(t, "Read", element(utc, s), api.ErrForm)
		stays(t, "ReadStrict", element(utc, s), api.ErrForm)
		stays(t, "ReadGeneral", element(utc, s), api.ErrTag)
		stays(t, "ReadGeneral", append(element(general, s), "500101000000Z"...), api.ErrForm)
	}
	stays(t, "Read", element(utc, "20500101000000Z"), api.ErrForm)
	stays(t, "Read", element(general, "500101000000Z"), api.ErrForm)
}

// P10.3: the chapter's examples.
func TestElementExamples(t *testing.T) {
	reads(t, "ReadStrict", element(general, "20500101000000Z"), in(general, lastUtc+1))
	stays(t, "ReadStrict", element(general, "20490101000000Z"), api.ErrForm)
	reads(t, "ReadGeneral", element(general, "20490101000000Z"), in(general, 2493072000))
}

// P10.4 and the rule of memory: the elements of a time are new memory, and the bytes of the cursor stay.
func TestElementMemory(t *testing.T) {
	for _, x := range []clock.Time{in(utc, 0), in(general, 0)} {
		a, _ := clock.Write(x)
		b, _ := clock.Write(x)
		a = append(a, 1)
		clear(a[:cap(a)])
		c := octet.New(b)
		for range 2 {
			if y, e := clock.Read(c); e != api.OK || y != x {
				t.Error(x, y, e)
			}
			c.Back(0)
		}
		if !bytes.Equal(b, element(x.Kind, told(x))) || !bytes.Equal(c.Rest(), b) {
			t.Errorf("%q", b)
		}
	}
}

// P10.3: the tags are those of chapter 2.
func TestWriteTag(t *testing.T) {
	for _, x := range []clock.Time{in(utc, 0), in(general, 0)} {
		b, e := clock.Write(x)
		if tag, n, f := head.Read(octet.New(b)); e != api.OK || f != api.OK || tag != head.Of(x.Kind) || n != len(b)-2 {
			t.Error(x, b, e, tag, n, f)
		}
	}
}
