package head_test

import (
	"bytes"
	"math"
	"testing"

	"quittance/api"
	"quittance/head"
	"quittance/octet"
)

// raw returns the bytes of a hex text.
func raw(t *testing.T, s string) []byte {
	t.Helper()
	b, e := octet.Unhex(s)
	if e != api.OK {
		t.Fatal("not a hex text", s)
	}
	return b
}

// spoil writes over a result, up to its capacity.
func spoil(b []byte) {
	b = b[:cap(b)]
	for i := range b {
		b[i] = ^b[i]
	}
}

const topNumber = 1<<21 - 1

// Every number that some edge of an encoding lies at.
var numbers = []int{0, 1, 2, 16, 17, 29, 30, 31, 32, 126, 127, 128, 129, 201, 16382, 16383, 16384, 16385, 1 << 20, topNumber - 1, topNumber}

// everyTag calls check for each class, made or not, with each of numbers.
func everyTag(check func(head.Tag)) {
	for class := range 4 {
		for _, n := range numbers {
			check(head.Tag{Class: class, Number: n})
			check(head.Tag{Class: class, Number: n, Made: true})
		}
	}
}

func wrongTags() []head.Tag {
	var out []head.Tag
	for _, n := range []int{math.MinInt, -1 << 31, -128, -31, -1, topNumber + 1, topNumber + 2, 1 << 28, 1 << 32, math.MaxInt} {
		for class := range 4 {
			out = append(out, head.Tag{Class: class, Number: n}, head.Tag{Class: class, Number: n, Made: true})
		}
	}
	for _, class := range []int{math.MinInt, -256, -4, -1, 4, 5, 256, math.MaxInt} {
		out = append(out, head.Tag{Class: class}, head.Tag{Class: class, Number: 31, Made: true}, head.Tag{Class: class, Number: topNumber + 1})
	}
	return out
}

// P2.1
func TestConstants(t *testing.T) {
	classes := []int{head.Universal, head.Application, head.Context, head.Private}
	for want, class := range classes {
		if class != want {
			t.Error("class", class, want)
		}
	}
	for want, number := range map[int]int{1: head.Boolean, 2: head.Integer, 3: head.BitString, 4: head.OctetString, 5: head.Null, 6: head.Oid, 10: head.Enumerated, 12: head.Utf8, 16: head.Sequence, 17: head.Set, 19: head.Printable, 20: head.Teletex, 22: head.Ia5, 23: head.UtcTime, 24: head.GeneralTime, 26: head.Visible, 30: head.Bmp} {
		if number != want {
			t.Error("number", number, want)
		}
	}
}

// P2.1: numbers outside of the range are not refused here, Right tells of them.
func TestOf(t *testing.T) {
	for n := -3; n < 300; n++ {
		if x := head.Of(n); x != (head.Tag{Class: 0, Number: n, Made: n == 16 || n == 17}) {
			t.Error(n, x)
		}
	}
	for _, n := range []int{math.MinInt, topNumber, topNumber + 1, math.MaxInt} {
		if x := head.Of(n); x != (head.Tag{Number: n}) {
			t.Error(n, x)
		}
	}
}

// P2.1
func TestAt(t *testing.T) {
	for _, n := range []int{math.MinInt, -1, 0, 1, 16, 17, 30, 31, topNumber, topNumber + 1, math.MaxInt} {
		for _, made := range []bool{false, true} {
			if x := head.At(n, made); x != (head.Tag{Class: 2, Number: n, Made: made}) {
				t.Error(n, made, x)
			}
		}
	}
}

// P2.1
func TestRight(t *testing.T) {
	everyTag(func(x head.Tag) {
		if !head.Right(x) {
			t.Error(x)
		}
	})
	for _, x := range wrongTags() {
		if head.Right(x) {
			t.Error(x)
		}
	}
}

// P2.2
func TestBytesOfTags(t *testing.T) {
	for s, x := range map[string]head.Tag{
		"00": {}, "30": head.Of(head.Sequence), "31": head.Of(head.Set), "02": head.Of(head.Integer), "1e": head.Of(head.Bmp),
		"a0": head.At(0, true), "80": head.At(0, false), "9e": head.At(30, false), "be": head.At(30, true),
		"1f1f": {Number: 31}, "1f20": {Number: 32}, "1f7f": {Number: 127}, "1f8100": {Number: 128}, "1f8149": {Number: 201}, "1fff7f": {Number: 16383},
		"1f818000": {Number: 16384}, "1f818001": {Number: 16385}, "1fffff7f": {Number: topNumber},
		"5f1f": {Class: 1, Number: 31}, "7f818000": {Class: 1, Number: 16384, Made: true}, "bf1f": head.At(31, true), "9f8100": head.At(128, false), "df1f": {Class: 3, Number: 31},
		"ffffff7f": {Class: 3, Number: topNumber, Made: true}, "fe": {Class: 3, Number: 30, Made: true}, "c0": {Class: 3}, "40": {Class: 1}, "60": {Class: 1, Made: true},
	} {
		if b, e := head.Bytes(x); e != api.OK || octet.Hex(b) != s {
			t.Error(x, octet.Hex(b), e)
		}
		c := octet.New(raw(t, s))
		if y, e := head.ReadTag(c); e != api.OK || y != x || c.Left() != 0 {
			t.Error(s, y, e, c.Left())
		}
	}
}

// P2.2
func TestBytesOfWrongTags(t *testing.T) {
	for _, x := range wrongTags() {
		if b, e := head.Bytes(x); b != nil || e != api.ErrArg {
			t.Error(x, b, e)
		}
	}
}

// spelt writes a tag as the chapter says it, digit by digit.
func spelt(x head.Tag) []byte {
	first := byte(x.Class << 6)
	if x.Made {
		first |= 0x20
	}
	n := x.Number
	switch {
	case n < 31:
		return []byte{first | byte(n)}
	case n < 1<<7:
		return []byte{first | 31, byte(n)}
	case n < 1<<14:
		return []byte{first | 31, 0x80 | byte(n>>7), byte(n & 127)}
	}
	return []byte{first | 31, 0x80 | byte(n>>14), 0x80 | byte(n>>7&127), byte(n & 127)}
}

// P2.2, P2.3, P2.6: a tag has one encoding, and reading it gives the tag back, whatever follows.
func TestTagsThereAndBack(t *testing.T) {
	check := func(x head.Tag) {
		b, e := head.Bytes(x)
		if e != api.OK || !bytes.Equal(b, spelt(x)) {
			t.Fatal(x, b, e)
		}
		c := octet.New(append(b, 0xff))
		if y, e := head.ReadTag(c); e != api.OK || y != x || c.At() != len(b) {
			t.Fatal(x, y, e, c.At())
		}
	}
	everyTag(check)
	for n := 0; n <= topNumber; n += 1 + n/200 {
		check(head.Tag{Class: n % 4, Number: n, Made: n%3 == 0})
	}
}

// P2.6
func TestTagsDiffer(t *testing.T) {
	seen := map[string]head.Tag{}
	everyTag(func(x head.Tag) {
		b, _ := head.Bytes(x)
		if y, ok := seen[string(b)]; ok {
			t.Error(x, y)
		}
		seen[string(b)] = x
	})
}

// P2.3: the error, and the cursor stays, wherever it is.
func TestReadTagErrors(t *testing.T) {
	for _, x := range []struct {
		in   string
		want api.Errno
	}{
		{"", api.ErrEnd},
		{"1f", api.ErrEnd}, {"3f", api.ErrEnd}, {"ff", api.ErrEnd},
		{"1f81", api.ErrEnd}, {"1f8180", api.ErrEnd}, {"1fff", api.ErrEnd}, {"1fffff", api.ErrEnd},
		{"1f80", api.ErrTag}, {"1f8001", api.ErrTag}, {"1f807f", api.ErrTag}, {"1f808100", api.ErrTag}, {"1f80ffff7f", api.ErrTag}, {"bf80", api.ErrTag}, // a first digit 0
		{"1f00", api.ErrTag}, {"1f01", api.ErrTag}, {"1f1e", api.ErrTag}, {"df10", api.ErrTag}, {"3f10", api.ErrTag}, // below 31
		{"1fffffff00", api.ErrTag}, {"1fffffff7f", api.ErrTag}, {"1f81808000", api.ErrTag}, {"1f818080ff", api.ErrTag}, {"1fffffffffffff7f", api.ErrTag}, // a fourth digit
		{"1f818080", api.ErrEnd}, {"1fffffff", api.ErrEnd}, // three digits that announce a fourth, which is not there
	} {
		for _, before := range []int{0, 1, 5} {
			c := octet.New(append(make([]byte, before), raw(t, x.in)...))
			c.Take(before)
			if y, e := head.ReadTag(c); e != x.want || y != (head.Tag{}) {
				t.Error(x.in, y, e)
			}
			if c.At() != before {
				t.Error(x.in, "moved to", c.At())
			}
			if y, n, e := head.Read(c); e != x.want || y != (head.Tag{}) || n != 0 || c.At() != before {
				t.Error("Read", x.in, y, n, e, c.At())
			}
		}
	}
}

// P2.3
func TestNilCursor(t *testing.T) {
	if x, e := head.ReadTag(nil); x != (head.Tag{}) || e != api.ErrState {
		t.Error(x, e)
	}
	if n, e := head.ReadLength(nil); n != 0 || e != api.ErrState {
		t.Error(n, e)
	}
	if x, n, e := head.Read(nil); x != (head.Tag{}) || n != 0 || e != api.ErrState {
		t.Error(x, n, e)
	}
	for _, x := range []head.Tag{{}, head.Of(head.Sequence), {Class: 4}} {
		if c, e := head.Open(nil, x); c != nil || e != api.ErrState {
			t.Error(c, e)
		}
		if head.Is(nil, x) {
			t.Error(x)
		}
	}
}

// P2.3, P2.6: of all short byte strings, ReadTag accepts those alone that Bytes returns.
func TestReadTagAcceptsOneSpelling(t *testing.T) {
	try := func(in []byte) {
		c := octet.New(in)
		x, e := head.ReadTag(c)
		if e != api.OK {
			if c.At() != 0 || x != (head.Tag{}) {
				t.Fatal(in, x, e, c.At())
			}
			return
		}
		if b, e := head.Bytes(x); e != api.OK || !bytes.Equal(b, in[:c.At()]) {
			t.Fatal(in, x, b, e)
		}
	}
	for a := range 256 {
		try([]byte{byte(a)})
		for b := range 256 {
			try([]byte{byte(a), byte(b)})
		}
	}
	some := []byte{0, 1, 30, 31, 127, 128, 129, 158, 159, 255}
	for a := range 256 {
		for _, b := range some {
			for _, c := range some {
				try([]byte{0x5f, byte(a), b, c})
				try([]byte{0x3f, b, byte(a), c, 0})
			}
		}
	}
}

// P2.6
func TestTagsAreNewMemory(t *testing.T) {
	everyTag(func(x head.Tag) {
		a, _ := head.Bytes(x)
		b, _ := head.Bytes(x)
		spoil(a)
		if c, _ := head.Bytes(x); !bytes.Equal(b, spelt(x)) || !bytes.Equal(c, b) {
			t.Error(x, b, c)
		}
	})
}
