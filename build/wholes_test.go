package build_test

import (
	"bytes"
	"math/rand"
	"slices"
	"testing"

	"quittance/api"
	"quittance/build"
	"quittance/head"
	"quittance/octet"
)

// cut returns the elements of b, in the chapter's words.
func cut(b []byte) ([][]byte, api.Errno) {
	var out [][]byte
	for len(b) > 0 {
		c := octet.New(b)
		_, n, e := head.Read(c)
		if e != api.OK {
			return nil, e
		}
		if size := c.At() + n; size > len(b) {
			return nil, api.ErrEnd
		} else {
			out, b = append(out, b[:size]), b[size:]
		}
	}
	return out, api.OK
}

// rising reports whether no element is less than the one before it.
func rising(l [][]byte) bool {
	for i := 1; i < len(l); i++ {
		if string(l[i]) < string(l[i-1]) {
			return false
		}
	}
	return true
}

// check holds Wholes and Sorted of b, behind that many bytes, against the chapter's words.
func check(t *testing.T, before int, b []byte) {
	t.Helper()
	want, wrong := cut(b)
	c := octet.New(append(bytes.Repeat([]byte{0xff}, before), b...))
	c.Take(before)
	is, e := build.Sorted(c)
	if e != wrong || is != (wrong == api.OK && rising(want)) || c.At() != before {
		t.Error("Sorted", before, octet.Hex(b), is, e, c.At())
	}
	l, e := build.Wholes(c)
	if e != wrong || !same(l, want) {
		t.Error("Wholes", before, octet.Hex(b), texts(l), e)
	}
	if e == api.OK && c.Left() != 0 || e != api.OK && c.At() != before || c.At()+c.Left() != before+len(b) {
		t.Error("Wholes", before, octet.Hex(b), e, "the cursor is at", c.At())
	}
}

// P8.5
func TestWholes(t *testing.T) {
	for _, x := range []struct {
		in   string
		want []string
	}{
		{"", nil}, {"0500", []string{"0500"}}, {"05000101ff", []string{"0500", "0101ff"}}, {"050005000500", []string{"0500", "0500", "0500"}},
		{"30020500020105", []string{"30020500", "020105"}}, {"3003ffffff1f1f00", []string{"3003ffffff", "1f1f00"}}, {"0000", []string{"0000"}},
	} {
		for _, before := range []int{0, 1, 5} {
			c := octet.New(append(make([]byte, before), raw(t, x.in)...))
			c.Take(before)
			if l, e := build.Wholes(c); e != api.OK || !slices.Equal(texts(l), x.want) || c.Left() != 0 || c.At() != before+len(x.in)/2 {
				t.Error(x.in, texts(l), e, c.At())
			}
			if l, e := build.Wholes(c); e != api.OK || len(l) != 0 || c.Left() != 0 || c.At() != before+len(x.in)/2 { // nothing is left
				t.Error(x.in, texts(l), e, c.At())
			}
		}
	}
}

// P8.5: an error in the first, in a middle and in the last element, and the cursor stays.
func TestWholesErrors(t *testing.T) {
	for _, x := range []struct {
		in   string
		want api.Errno
	}{
		{"05", api.ErrEnd}, {"1f", api.ErrEnd}, {"1f81", api.ErrEnd}, {"0482", api.ErrEnd}, {"048201", api.ErrEnd}, {"0401", api.ErrEnd}, {"0403ffff", api.ErrEnd}, {"04840100000000", api.ErrEnd},
		{"1f0100", api.ErrTag}, {"1f800100", api.ErrTag}, {"1f8181818100", api.ErrTag},
		{"0480", api.ErrLen}, {"04ff", api.ErrLen}, {"04850000000001", api.ErrLen}, {"04817f", api.ErrLen}, {"0482007f", api.ErrLen},
		{"048401000001", api.ErrLong}, {"0484ffffffff", api.ErrLong},
	} {
		for _, before := range []string{"", "0500", "05000500", "0101ff04020500", "ff7f00"} {
			b := append(raw(t, before), raw(t, x.in)...)
			for skip := range 4 {
				c := octet.New(append(make([]byte, skip), b...))
				c.Take(skip)
				if l, e := build.Wholes(c); len(l) != 0 || e != x.want || c.At() != skip {
					t.Error(before, x.in, texts(l), e, c.At())
				}
				if is, e := build.Sorted(c); is || e != x.want || c.At() != skip {
					t.Error(before, x.in, is, e, c.At())
				}
			}
		}
	}
	first := map[string]api.Errno{ // the error that comes first in the bytes, of the two that are there
		"0480" + "1f0100" + "0500": api.ErrLen, "1f0100" + "0480": api.ErrTag, "0500" + "048401000001" + "1f0100": api.ErrLong,
		"0500" + "0480" + "05": api.ErrLen, "0500" + "1f0100" + "0409": api.ErrTag, "0409" + "1f0100": api.ErrEnd, "0500" + "0404" + "0480": api.ErrEnd,
	}
	for in, want := range first {
		if l, e := build.Wholes(octet.New(raw(t, in))); len(l) != 0 || e != want {
			t.Error(in, texts(l), e)
		}
		if is, e := build.Sorted(octet.New(raw(t, in))); is || e != want {
			t.Error(in, is, e)
		}
	}
}

// P8.5: an order that descends does not hide an error behind it.
func TestSortedErrorBehindTheOrder(t *testing.T) {
	for _, in := range []string{"0500" + "0100" + "0480", "0500" + "0500" + "0480"} {
		c := octet.New(raw(t, in))
		if is, e := build.Sorted(c); is || e != api.ErrLen || c.At() != 0 {
			t.Error(in, is, e, c.At())
		}
	}
}

// P8.5
func TestNilCursor(t *testing.T) {
	if l, e := build.Wholes(nil); len(l) != 0 || e != api.ErrState {
		t.Error(l, e)
	}
	if is, e := build.Sorted(nil); is || e != api.ErrState {
		t.Error(is, e)
	}
	if l, e := build.Wholes(&octet.Cursor{}); len(l) != 0 || e != api.OK {
		t.Error(l, e)
	}
	if is, e := build.Sorted(&octet.Cursor{}); !is || e != api.OK {
		t.Error(is, e)
	}
}

// P8.5: none, one, equal, ascending, descending, and elements of which one begins as the other does.
func TestSorted(t *testing.T) {
	for _, x := range []struct {
		in   []string
		want bool
	}{
		{nil, true}, {[]string{"0500"}, true}, {[]string{"0500", "0500"}, true}, {[]string{"0500", "0500", "0500"}, true},
		{[]string{"0101ff", "020105"}, true}, {[]string{"020105", "0101ff"}, false}, {[]string{"0500", "010100"}, false},
		{[]string{"0101ff", "0101ff", "0200", "0200", "0500"}, true}, {[]string{"0100", "0500", "0200"}, false}, {[]string{"0200", "0100", "0500"}, false}, {[]string{"0100", "0200", "0500", "0500", "04820100" + octet.Hex(make([]byte, 256))}, false},
		{[]string{"020101", "020102"}, true}, {[]string{"020102", "020101"}, false}, {[]string{"02017f", "020180"}, true}, {[]string{"020180", "02017f"}, false},
		{[]string{"0401ff", "04020000"}, true}, {[]string{"04020000", "0401ff"}, false},
		{[]string{"0401ff", "0402ff00"}, true}, {[]string{"0402ff00", "0401ff"}, false}, {[]string{"0400", "040100"}, true}, {[]string{"040100", "0400"}, false}, // the contents of one begin as those of the other
		{[]string{"1f7f00", "1f810000"}, true}, {[]string{"1f810000", "1f7f00"}, false}, // all of an element counts, not its tag's number
		{[]string{"3000", "1000"}, false}, {[]string{"1000", "3000", "8000", "a000", "c000"}, true}, {[]string{"8000", "7f1f00"}, false},
	} {
		for _, before := range []int{0, 4} {
			b := bytes.Join(append([][]byte{bytes.Repeat([]byte{0xff}, before)}, raws(t, x.in...)...), nil)
			c := octet.New(b)
			c.Take(before)
			if is, e := build.Sorted(c); e != api.OK || is != x.want || c.At() != before {
				t.Error(x.in, is, e, c.At())
			}
		}
	}
}

// P8.5: at each position of a cursor, whatever stands before it.
func TestWholesFromTheMidst(t *testing.T) {
	b := raw(t, "0500"+"0101ff"+"30050500020105"+"04030500ff"+"0500")
	for at := range len(b) + 1 {
		c := octet.New(b)
		c.Take(at)
		want, wrong := cut(b[at:])
		is, e := build.Sorted(c)
		if e != wrong || is != (wrong == api.OK && rising(want)) || c.At() != at {
			t.Error(at, is, e, c.At())
		}
		l, e := build.Wholes(c)
		if e != wrong || !same(l, want) || wrong == api.OK && c.Left() != 0 || wrong != api.OK && c.At() != at {
			t.Error(at, texts(l), e, c.At())
		}
	}
}

// P8.5: all strings of up to four bytes, and some of five, of those that matter to a reader.
func TestWholesOfAllShort(t *testing.T) {
	signs := []byte{0, 1, 2, 5, 0x1f, 0x30, 0x7f, 0x80, 0x81, 0x82, 0x84, 0xff}
	var all func(b []byte)
	all = func(b []byte) {
		check(t, len(b)%3, b)
		if len(b) == 5 || len(b) == 4 && b[3] > 2 {
			return
		}
		for _, x := range signs {
			all(append(slices.Clone(b), x))
		}
	}
	all(nil)
}

// P8.5: random elements, as they are, in order, and with a byte changed, taken away or added.
func TestWholesOfMany(t *testing.T) {
	r := rand.New(rand.NewSource(83))
	for range 3000 {
		l := elements(r, 8)
		if r.Intn(2) == 0 {
			l = ascending(l)
		}
		b := bytes.Join(l, nil)
		if got, e := build.Wholes(octet.New(b)); e != api.OK || !same(got, l) {
			t.Error(texts(l), texts(got), e)
		}
		check(t, r.Intn(3), b)
		if len(b) > 0 {
			at := r.Intn(len(b))
			check(t, r.Intn(3), b[:at])
			check(t, r.Intn(3), slices.Delete(slices.Clone(b), at, at+1))
			b[at] ^= byte(1 << r.Intn(8))
			check(t, r.Intn(3), b)
		}
	}
}

// P8.5: there is no limit to how many there are, nor to their length together.
func TestWholesWithoutLimit(t *testing.T) {
	c := octet.New(bytes.Repeat([]byte{5, 0}, 100000))
	if is, e := build.Sorted(c); !is || e != api.OK || c.At() != 0 {
		t.Error(is, e, c.At())
	}
	if l, e := build.Wholes(c); e != api.OK || len(l) != 100000 || octet.Hex(l[99999]) != "0500" || c.Left() != 0 {
		t.Error(len(l), e)
	}
	long := element(0, 4, false, make([]byte, 1<<24))
	c = octet.New(slices.Concat(long, long, []byte{1, 0}))
	if is, e := build.Sorted(c); is || e != api.OK || c.At() != 0 {
		t.Error(is, e, c.At())
	}
	if l, e := build.Wholes(c); e != api.OK || len(l) != 3 || !bytes.Equal(l[1], long) || octet.Hex(l[2]) != "0100" {
		t.Error(len(l), e)
	}
}

// P8.5: the elements and what is put around them come back.
func TestWholesThereAndBack(t *testing.T) {
	r := rand.New(rand.NewSource(84))
	for range 500 {
		l := elements(r, 8)
		b, e := build.SetOf(l...)
		if e != api.OK {
			t.Fatal(e)
		}
		in, e := head.Alone(b, head.Of(head.Set))
		if e != api.OK {
			t.Fatal(e)
		}
		if is, e := build.Sorted(in); !is || e != api.OK {
			t.Error(texts(l), is, e)
		}
		if got, e := build.Wholes(in); e != api.OK || !same(got, ascending(l)) {
			t.Error(texts(l), texts(got), e)
		}
	}
}
