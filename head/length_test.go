package head_test

import (
	"bytes"
	"math"
	"testing"

	"quittance/api"
	"quittance/head"
	"quittance/octet"
)

// Every length that some edge of an encoding lies at.
var lengths = []int{0, 1, 126, 127, 128, 129, 254, 255, 256, 257, 65534, 65535, 65536, 65537, 1 << 23, 1<<24 - 1, 1 << 24}

// P2.2
func TestLength(t *testing.T) {
	for n, want := range map[int]string{0: "00", 1: "01", 126: "7e", 127: "7f", 128: "8180", 129: "8181", 255: "81ff", 256: "820100", 257: "820101", 65535: "82ffff", 65536: "83010000", 1<<24 - 1: "83ffffff", 1 << 24: "8401000000"} {
		if b, e := head.Length(n); e != api.OK || octet.Hex(b) != want {
			t.Error(n, octet.Hex(b), e)
		}
		c := octet.New(raw(t, want))
		if k, e := head.ReadLength(c); e != api.OK || k != n || c.Left() != 0 {
			t.Error(want, k, e, c.Left())
		}
	}
}

// P2.2
func TestLengthErrors(t *testing.T) {
	for _, n := range []int{math.MinInt, -1 << 32, -128, -1} {
		if b, e := head.Length(n); b != nil || e != api.ErrArg {
			t.Error(n, b, e)
		}
	}
	for _, n := range []int{1<<24 + 1, 1<<24 + 2, 1 << 25, 1 << 31, 1 << 32, 1<<32 + 5, math.MaxInt} {
		if b, e := head.Length(n); b != nil || e != api.ErrLong {
			t.Error(n, b, e)
		}
	}
}

// P2.2, P2.3, P2.6
func TestLengthsThereAndBack(t *testing.T) {
	seen := map[string]int{}
	check := func(n int) {
		b, e := head.Length(n)
		if e != api.OK {
			t.Fatal(n, e)
		}
		if k, ok := seen[string(b)]; ok && k != n {
			t.Fatal(n, k, "are both", b)
		}
		seen[string(b)] = n
		c := octet.New(append(b, 0xff))
		if k, e := head.ReadLength(c); e != api.OK || k != n || c.At() != len(b) {
			t.Fatal(n, k, e, c.At())
		}
	}
	for _, n := range lengths {
		check(n)
	}
	for n := range 70000 {
		check(n)
	}
	for n := 70000; n <= 1<<24; n += 4099 {
		check(n)
	}
}

// P2.3
func TestReadLengthErrors(t *testing.T) {
	for _, x := range []struct {
		in   string
		want api.Errno
	}{
		{"", api.ErrEnd},
		{"80", api.ErrLen}, {"8001", api.ErrLen}, {"800000", api.ErrLen}, {"ff", api.ErrLen}, {"ff01", api.ErrLen},
		{"85", api.ErrLen}, {"850000000001", api.ErrLen}, {"850100000000", api.ErrLen}, {"86", api.ErrLen}, {"fe", api.ErrLen}, {"88ffffffffffffffff", api.ErrLen}, // more than four
		{"81", api.ErrEnd}, {"82", api.ErrEnd}, {"8201", api.ErrEnd}, {"83", api.ErrEnd}, {"830100", api.ErrEnd}, {"84", api.ErrEnd}, {"84010000", api.ErrEnd}, // fewer than n
		{"8200", api.ErrEnd}, {"830000", api.ErrEnd}, {"84ffffff", api.ErrEnd}, // ErrEnd comes first
		{"8100", api.ErrLen}, {"8101", api.ErrLen}, {"817f", api.ErrLen}, // below 128
		{"820000", api.ErrLen}, {"82007f", api.ErrLen}, {"820080", api.ErrLen}, {"8200ff", api.ErrLen}, {"83000100", api.ErrLen}, {"8300ffff", api.ErrLen}, {"8400ffffff", api.ErrLen}, {"8400000000", api.ErrLen}, // a first digit 0
		{"8401000001", api.ErrLong}, {"8401000100", api.ErrLong}, {"8402000000", api.ErrLong}, {"847fffffff", api.ErrLong}, {"8480000000", api.ErrLong}, {"84ffffffff", api.ErrLong},
	} {
		for _, before := range []int{0, 1, 5} {
			c := octet.New(append(make([]byte, before), raw(t, x.in)...))
			c.Take(before)
			if n, e := head.ReadLength(c); e != x.want || n != 0 {
				t.Error(x.in, n, e)
			}
			if c.At() != before {
				t.Error(x.in, "moved to", c.At())
			}
		}
		readBehindTags(t, x.in, x.want)
	}
}

// readBehindTags checks that Read returns the error of a length behind short and long tags, and stays ahead of the tag.
func readBehindTags(t *testing.T, in string, want api.Errno) {
	t.Helper()
	for _, tag := range []string{"30", "1f1f", "bfffff7f"} {
		c := octet.New(raw(t, "00"+tag+in))
		c.Byte()
		if x, n, e := head.Read(c); e != want || x != (head.Tag{}) || n != 0 || c.At() != 1 {
			t.Error("Read", tag, in, x, n, e, c.At())
		}
	}
}

// P2.3, P2.6: of many byte strings, ReadLength accepts those alone that Length returns.
func TestReadLengthAcceptsOneSpelling(t *testing.T) {
	try := func(in ...byte) {
		c := octet.New(in)
		n, e := head.ReadLength(c)
		if e != api.OK {
			if c.At() != 0 || n != 0 {
				t.Fatal(in, n, e, c.At())
			}
			return
		}
		if b, e := head.Length(n); e != api.OK || !bytes.Equal(b, in[:c.At()]) {
			t.Fatal(in, n, b, e)
		}
	}
	some := []byte{0, 1, 2, 127, 128, 255}
	for a := range 256 {
		try(byte(a))
		for b := range 256 {
			try(byte(a), byte(b))
			for _, x := range some {
				try(0x82, byte(a), byte(b), x)
				for _, y := range some {
					try(0x83, byte(a), x, byte(b), y)
					try(0x84, x, byte(a), byte(b), y)
				}
			}
		}
	}
}

// P2.3: a length may announce more bytes than there are; that is seen by Open alone.
func TestRead(t *testing.T) {
	for _, x := range []struct {
		in   string
		tag  head.Tag
		n, k int
	}{
		{"0500", head.Of(head.Null), 0, 2},
		{"30050102", head.Of(head.Sequence), 5, 2},
		{"307f", head.Of(head.Sequence), 127, 2},
		{"1f8149818001", head.Tag{Number: 201}, 128, 5},
		{"a08401000000", head.At(0, true), 1 << 24, 6},
		{"ffffff7f82010000", head.Tag{Class: 3, Number: topNumber, Made: true}, 256, 7},
	} {
		c := octet.New(raw(t, x.in))
		if tag, n, e := head.Read(c); e != api.OK || tag != x.tag || n != x.n || c.At() != x.k {
			t.Error(x.in, tag, n, e, c.At())
		}
	}
}

// P2.3: the error of the tag comes ahead of that of the length.
func TestReadTagErrorFirst(t *testing.T) {
	for _, s := range []string{"1f1e80", "1f80ff", "1f1e8401000001", "1fffffff7f80"} {
		c := octet.New(raw(t, s))
		if x, n, e := head.Read(c); e != api.ErrTag || x != (head.Tag{}) || n != 0 || c.At() != 0 {
			t.Error(s, x, n, e, c.At())
		}
	}
}

// P2.6
func TestLengthsAreNewMemory(t *testing.T) {
	for _, n := range lengths {
		a, _ := head.Length(n)
		b, _ := head.Length(n)
		want := bytes.Clone(b)
		spoil(a)
		if c, _ := head.Length(n); !bytes.Equal(b, want) || !bytes.Equal(c, want) {
			t.Error(n, b, c)
		}
	}
}
