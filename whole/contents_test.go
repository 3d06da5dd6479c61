package whole_test

import (
	"bytes"
	"math"
	"math/big"
	"testing"

	"quittance/api"
	"quittance/head"
	"quittance/octet"
	"quittance/whole"
)

// twos returns the contents of x by the chapter's words: the fewest bytes such that x lies within what they represent.
func twos(x *big.Int) []byte {
	for n := uint(1); ; n++ {
		half := new(big.Int).Lsh(big.NewInt(1), 8*n-1)
		if x.Cmp(half) >= 0 || x.Cmp(new(big.Int).Neg(half)) < 0 {
			continue
		}
		y := new(big.Int).Set(x)
		if x.Sign() < 0 {
			y.Add(y, new(big.Int).Lsh(half, 1))
		}
		return y.FillBytes(make([]byte, n))
	}
}

// P3.3, with the chapter's examples.
func TestContents(t *testing.T) {
	for _, x := range []struct {
		k    int
		want string
	}{
		{0, "00"}, {1, "01"}, {-1, "ff"}, {-2, "fe"}, {127, "7f"}, {128, "0080"}, {129, "0081"}, {-127, "81"}, {-128, "80"}, {-129, "ff7f"},
		{254, "00fe"}, {255, "00ff"}, {256, "0100"}, {-254, "ff02"}, {-255, "ff01"}, {-256, "ff00"}, {-257, "feff"},
		{32767, "7fff"}, {32768, "008000"}, {-32768, "8000"}, {-32769, "ff7fff"}, {65535, "00ffff"}, {65536, "010000"}, {-65536, "ff0000"},
		{math.MaxInt, "7fffffffffffffff"}, {math.MinInt, "8000000000000000"}, {-math.MaxInt, "8000000000000001"},
	} {
		b, e := whole.Contents(whole.Of(x.k))
		if octet.Hex(b) != x.want || e != api.OK {
			t.Errorf("Contents(%d) = %x, %d", x.k, b, e)
		}
		n, e := whole.Parse(b)
		if e != api.OK {
			t.Error(x.k, e)
		}
		is(t, "Parse", n, big.NewInt(int64(x.k)))
	}
}

// P3.3: all samples, most of them longer than an int, some too long.
func TestContentsOfSamples(t *testing.T) {
	for _, x := range samples() {
		want := twos(x)
		b, e := whole.Contents(fromBig(x))
		if len(want) > 64 {
			if b != nil || e != api.ErrLong {
				t.Errorf("Contents(%s) = %x, %d", x, b, e)
			}
			continue
		}
		if !bytes.Equal(b, want) || e != api.OK {
			t.Errorf("Contents(%s) = %x, %d, want %x", x, b, e, want)
		}
		n, e := whole.Parse(b)
		if e != api.OK {
			t.Error(x, e)
		}
		is(t, "Parse", n, x)
	}
}

// P3.3: the greatest and the least that have 64 bytes, and those beyond.
func TestContentsLimit(t *testing.T) {
	for _, x := range []struct {
		n      *big.Int
		length int
	}{
		{power(511, -1), 64}, {power(511, 0), 0}, {power(511, 1), 0}, {power(512, -1), 0}, {power(512, 0), 0}, {power(503, -1), 63}, {power(503, 0), 64},
		{new(big.Int).Neg(power(511, 0)), 64}, {new(big.Int).Neg(power(511, 1)), 0}, {new(big.Int).Neg(power(511, -1)), 64},
		{new(big.Int).Neg(power(512, -1)), 0}, {new(big.Int).Neg(power(512, 0)), 0}, {new(big.Int).Neg(power(503, 0)), 63}, {new(big.Int).Neg(power(503, 1)), 64},
	} {
		b, e := whole.Contents(fromBig(x.n))
		w, f := whole.Write(fromBig(x.n))
		if x.length == 0 {
			if b != nil || e != api.ErrLong || w != nil || f != api.ErrLong {
				t.Errorf("%x: %x, %d; %x, %d", x.n, b, e, w, f)
			}
			continue
		}
		if len(b) != x.length || e != api.OK || !bytes.Equal(b, twos(x.n)) {
			t.Errorf("%x: %x, %d", x.n, b, e)
		}
		if want := append([]byte{2, byte(x.length)}, b...); !bytes.Equal(w, want) || f != api.OK {
			t.Errorf("%x: %x, %d", x.n, w, f)
		}
	}
}

// P3.3: all contents of one and of two bytes.
func TestParseOfAllShort(t *testing.T) {
	for high := range 256 {
		n, e := whole.Parse([]byte{byte(high)})
		if e != api.OK {
			t.Fatal(high, e)
		}
		is(t, "Parse", n, big.NewInt(int64(int8(high))))
		for low := range 256 {
			b := []byte{byte(high), byte(low)}
			n, e := whole.Parse(b)
			k := int64(int16(high<<8 | low))
			if -128 <= k && k < 128 {
				none(t, "Parse", n)
				if e != api.ErrForm {
					t.Fatalf("Parse(%x): %d", b, e)
				}
				continue
			}
			if e != api.OK {
				t.Fatalf("Parse(%x): %d", b, e)
			}
			is(t, "Parse", n, big.NewInt(k))
			if back, e := whole.Contents(n); !bytes.Equal(back, b) || e != api.OK {
				t.Fatalf("Contents of %x: %x, %d", b, back, e)
			}
		}
	}
}

// long returns n bytes that begin with those of a hexadecimal text and go on with fill.
func long(hex string, n int, fill byte) []byte {
	b, _ := octet.Unhex(hex)
	return append(b, bytes.Repeat([]byte{fill}, n-len(b))...)
}

// P3.3: which error comes first, and the limit.
func TestParseErrors(t *testing.T) {
	for _, x := range []struct {
		b    []byte
		want api.Errno
	}{
		{nil, api.ErrForm}, {[]byte{}, api.ErrForm},
		{long("0000", 2, 0), api.ErrForm}, {long("007f", 2, 0), api.ErrForm}, {long("ffff", 2, 0), api.ErrForm}, {long("ff80", 2, 0), api.ErrForm},
		{long("0080", 2, 0), api.OK}, {long("ff7f", 2, 0), api.OK}, {long("0000", 3, 255), api.ErrForm}, {long("ffff", 3, 0), api.ErrForm},
		{long("0100", 2, 0), api.OK}, {long("feff", 2, 0), api.OK}, {long("7f00", 2, 0), api.OK}, {long("80ff", 2, 0), api.OK},
		{long("00", 64, 0), api.ErrForm}, {long("ff", 64, 255), api.ErrForm}, {long("007f", 64, 255), api.ErrForm}, {long("ff80", 64, 0), api.ErrForm},
		{long("0080", 64, 0), api.OK}, {long("ff7f", 64, 0), api.OK}, {long("01", 64, 0), api.OK}, {long("80", 64, 0), api.OK}, {long("7f", 64, 255), api.OK}, {long("ffff", 64, 255), api.ErrForm},
		{long("00", 65, 0), api.ErrLong}, {long("ff", 65, 255), api.ErrLong}, {long("0080", 65, 0), api.ErrLong}, {long("ff7f", 65, 0), api.ErrLong}, {long("01", 65, 1), api.ErrLong}, {long("80", 65, 0), api.ErrLong},
		{long("", 1000, 0), api.ErrLong},
	} {
		n, e := whole.Parse(x.b)
		if e != x.want {
			t.Errorf("Parse(%x): %d, want %d", x.b, e, x.want)
		}
		if e != api.OK {
			none(t, "Parse", n)
			continue
		}
		if b, e := whole.Contents(n); !bytes.Equal(b, x.b) || e != api.OK {
			t.Errorf("Contents of %x: %x, %d", x.b, b, e)
		}
	}
}

// at checks where a cursor stands.
func at(t *testing.T, c *octet.Cursor, position int) {
	t.Helper()
	if c.At() != position {
		t.Errorf("at %d, want %d", c.At(), position)
	}
}

// P3.4: what is written is read, and what is read is written as it was, wherever the cursor stands.
func TestReadAndWrite(t *testing.T) {
	for _, x := range samples() {
		want := twos(x)
		if len(want) > 64 {
			continue
		}
		b, e := whole.Write(fromBig(x))
		if !bytes.Equal(b, append([]byte{2, byte(len(want))}, want...)) || e != api.OK {
			t.Errorf("Write(%s) = %x, %d", x, b, e)
		}
		c := octet.New(octet.Join([]byte{9, 9}, b, []byte{7}))
		c.Take(2)
		n, e := whole.Read(c)
		if e != api.OK {
			t.Error(x, e)
		}
		is(t, "Read", n, x)
		at(t, c, 2+len(b))
		if again, e := whole.Write(n); !bytes.Equal(again, b) || e != api.OK {
			t.Errorf("%x is written as %x, %d", b, again, e)
		}
	}
}

// wrong are elements that cannot be read, with the errors for an Integer.
var wrong = []struct {
	hex  string
	want api.Errno
}{
	{"", api.ErrEnd}, {"02", api.ErrEnd}, {"0201", api.ErrEnd}, {"020201", api.ErrEnd}, {"020200", api.ErrEnd},
	{"0a0105", api.ErrTag}, {"0a020000", api.ErrTag}, {"220105", api.ErrTag}, {"820105", api.ErrTag}, {"420105", api.ErrTag}, {"c20105", api.ErrTag}, {"300105", api.ErrTag}, {"0a05", api.ErrTag},
	{"028001", api.ErrLen}, {"02810105", api.ErrLen}, {"0285", api.ErrLen}, {"0284ffffffff", api.ErrLong}, {"1f02", api.ErrTag},
	{"0200", api.ErrForm}, {"02020000", api.ErrForm}, {"0202007f", api.ErrForm}, {"0202ff80", api.ErrForm}, {"0202ffff", api.ErrForm}, {"0203007fff", api.ErrForm},
}

// P3.4: the errors of Open come ahead of those of Parse; the cursor stays.
func TestReadErrors(t *testing.T) {
	for _, x := range wrong {
		b, e := octet.Unhex(x.hex)
		if e != api.OK {
			t.Fatal(x.hex)
		}
		for _, front := range []int{0, 3} {
			c := octet.New(append(make([]byte, front), b...))
			c.Take(front)
			n, e := whole.Read(c)
			if e != x.want {
				t.Errorf("Read(%s): %d, want %d", x.hex, e, x.want)
			}
			none(t, "Read", n)
			at(t, c, front)
			k, e := whole.ReadInt(c, head.Integer)
			if k != 0 || e != x.want {
				t.Errorf("ReadInt(%s): %d, %d, want %d", x.hex, k, e, x.want)
			}
			at(t, c, front)
		}
	}
}

// P3.4: contents of 64 and of 65 bytes.
func TestReadLimit(t *testing.T) {
	for _, x := range []struct {
		contents []byte
		want     api.Errno
	}{
		{long("01", 64, 9), api.OK}, {long("80", 64, 0), api.OK}, {long("00", 64, 0), api.ErrForm},
		{long("01", 65, 9), api.ErrLong}, {long("80", 65, 0), api.ErrLong}, {long("00", 65, 0), api.ErrLong}, {long("ff", 65, 255), api.ErrLong}, {long("01", 70000, 1), api.ErrLong},
	} {
		b, e := head.Wrap(head.Of(head.Integer), x.contents)
		if e != api.OK {
			t.Fatal(e)
		}
		c := octet.New(b)
		n, e := whole.Read(c)
		if e != x.want {
			t.Errorf("%x: %d, want %d", b, e, x.want)
		}
		if e == api.OK {
			at(t, c, len(b))
			if again, _ := whole.Write(n); !bytes.Equal(again, b) {
				t.Errorf("%x is written as %x", b, again)
			}
		} else {
			none(t, "Read", n)
			at(t, c, 0)
		}
		c.Back(0)
		k, e := whole.ReadInt(c, head.Integer)
		if want := max(x.want, api.ErrLong); k != 0 || e != want { // what has 64 bytes is no int
			t.Errorf("%x: %d, %d, want %d", b, k, e, want)
		}
		at(t, c, 0)
	}
}

// P3.4
func TestNilCursor(t *testing.T) {
	n, e := whole.Read(nil)
	none(t, "Read", n)
	if e != api.ErrState {
		t.Error(e)
	}
	for number, want := range map[int]api.Errno{-1: api.ErrArg, 0: api.ErrState, 2: api.ErrState, 1<<21 - 1: api.ErrState, 1 << 21: api.ErrArg, math.MinInt: api.ErrArg, math.MaxInt: api.ErrArg} {
		if k, e := whole.ReadInt(nil, number); k != 0 || e != want {
			t.Error(number, k, e)
		}
	}
}

// P3.4
func TestReadIntAndWriteInt(t *testing.T) {
	for _, number := range []int{0, 1, head.Integer, head.Enumerated, head.Sequence, head.Set, 30, 31, 127, 128, 1<<14 - 1, 1 << 14, 1<<21 - 1} {
		tag := head.Of(number)
		for _, k := range edges {
			want, e := head.Wrap(tag, twos(big.NewInt(int64(k))))
			if e != api.OK {
				t.Fatal(e)
			}
			b, e := whole.WriteInt(k, number)
			if !bytes.Equal(b, want) || e != api.OK {
				t.Errorf("WriteInt(%d, %d) = %x, %d", k, number, b, e)
			}
			c := octet.New(append(b, 1))
			if got, e := whole.ReadInt(c, number); got != k || e != api.OK {
				t.Errorf("ReadInt(%x, %d) = %d, %d", b, number, got, e)
			}
			at(t, c, len(want))
		}
	}
}

// P3.4: some bytes by hand.
func TestWriteIntExamples(t *testing.T) {
	for _, x := range []struct {
		k, number int
		want      string
	}{
		{0, 2, "020100"}, {-1, 2, "0201ff"}, {128, 2, "02020080"}, {-129, 10, "0a02ff7f"}, {5, 0, "000105"}, {5, 16, "300105"}, {5, 17, "310105"}, {5, 31, "1f1f0105"},
		{-256, 1<<21 - 1, "1fffff7f02ff00"}, {math.MinInt, 2, "02088000000000000000"},
	} {
		if b, e := whole.WriteInt(x.k, x.number); octet.Hex(b) != x.want || e != api.OK {
			t.Errorf("WriteInt(%d, %d) = %x, %d", x.k, x.number, b, e)
		}
	}
}

// P3.4: ErrArg comes ahead of everything else.
func TestIntNumbers(t *testing.T) {
	for _, number := range []int{math.MinInt, -1 << 21, -2, -1, 1 << 21, 1<<21 + 2, 1 << 32, 1<<32 + 2, math.MaxInt} {
		for _, k := range []int{0, -1, math.MinInt} {
			if b, e := whole.WriteInt(k, number); b != nil || e != api.ErrArg {
				t.Errorf("WriteInt(%d, %d) = %x, %d", k, number, b, e)
			}
		}
		for _, b := range [][]byte{nil, {2}, {2, 1, 5}, {2, 2, 0, 0}, {10, 1, 5}, {2, 0x80}, append([]byte{2, 65}, make([]byte, 65)...)} {
			c := octet.New(append([]byte{0}, b...))
			c.Byte()
			if k, e := whole.ReadInt(c, number); k != 0 || e != api.ErrArg {
				t.Errorf("ReadInt(%x, %d) = %d, %d", b, number, k, e)
			}
			at(t, c, 1)
		}
	}
}

// P3.4: an integer that is not an int; another tag comes first.
func TestReadIntBeyond(t *testing.T) {
	for _, x := range []struct {
		hex    string
		number int
		k      int
		want   api.Errno
	}{
		{"02087fffffffffffffff", 2, math.MaxInt, api.OK}, {"02088000000000000000", 2, math.MinInt, api.OK},
		{"0209008000000000000000", 2, 0, api.ErrLong}, {"0209ff7fffffffffffffff", 2, 0, api.ErrLong},
		{"0a09008000000000000000", 10, 0, api.ErrLong}, {"0a09008000000000000000", 2, 0, api.ErrTag}, {"0209008000000000000000", 10, 0, api.ErrTag},
		{"0209010000000000000000", 2, 0, api.ErrLong}, {"02090000000000000000ff", 2, 0, api.ErrForm}, {"0209ffffffffffffffff00", 2, 0, api.ErrForm},
		{"100105", 16, 0, api.ErrTag}, {"300105", 16, 5, api.OK}, {"2a0105", 10, 0, api.ErrTag}, {"8a0105", 10, 0, api.ErrTag},
		{"020105", 1<<21 - 1, 0, api.ErrTag}, {"", 0, 0, api.ErrEnd}, {"0a0200", 10, 0, api.ErrEnd}, {"0a00", 10, 0, api.ErrForm},
	} {
		b, e := octet.Unhex(x.hex)
		if e != api.OK {
			t.Fatal(x.hex)
		}
		c := octet.New(append([]byte{1, 2}, b...))
		c.Take(2)
		if k, e := whole.ReadInt(c, x.number); k != x.k || e != x.want {
			t.Errorf("ReadInt(%s, %d) = %d, %d", x.hex, x.number, k, e)
		}
		if x.want == api.OK {
			at(t, c, 2+len(b))
		} else {
			at(t, c, 2)
		}
	}
}
