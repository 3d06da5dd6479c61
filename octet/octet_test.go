package octet_test

import (
	"bytes"
	"testing"

	"quittance/octet"
)

// short returns all byte strings of at most three of the given bytes.
func short() [][]byte {
	all := [][]byte{{}}
	for i := 0; i < len(all); i++ {
		if len(all[i]) == 3 {
			continue
		}
		for _, x := range []byte{0, 127, 128, 255} {
			all = append(all, append(bytes.Clone(all[i]), x))
		}
	}
	return all
}

// order is the order of the chapter's section 'Terms', word by word.
func order(a, b []byte) int {
	for i := 0; i < len(a) && i < len(b); i++ {
		if a[i] != b[i] {
			if a[i] < b[i] {
				return -1
			}
			return 1
		}
	}
	switch {
	case len(a) < len(b):
		return -1
	case len(a) > len(b):
		return 1
	}
	return 0
}

// P1.4
func TestCompareAndEqual(t *testing.T) {
	for _, x := range []struct {
		a, b string
		want int
	}{
		{"", "", 0}, {"", "a", -1}, {"a", "", 1}, {"a", "ab", -1}, {"ab", "a", 1}, {"ab", "ac", -1},
		{"b", "ab", 1}, {"\xff", "a", 1}, {"\x7f", "\x80", -1}, {"\x00", "", 1}, {"a\x00", "a", 1},
		{"same", "same", 0}, {"A", "a", -1},
	} {
		if n := octet.Compare([]byte(x.a), []byte(x.b)); n != x.want {
			t.Errorf("Compare(%q, %q) = %d", x.a, x.b, n)
		}
		if y := octet.Equal([]byte(x.a), []byte(x.b)); y != (x.want == 0) {
			t.Errorf("Equal(%q, %q) = %t", x.a, x.b, y)
		}
	}
}

// P1.4: against the chapter's order, for all pairs of short strings.
func TestCompareAndEqualOfAllShort(t *testing.T) {
	for _, a := range short() {
		for _, b := range short() {
			if n := octet.Compare(a, b); n != order(a, b) {
				t.Error(a, b, n)
			}
			if y := octet.Equal(a, b); y != (order(a, b) == 0) {
				t.Error(a, b, y)
			}
		}
	}
}

// P1.4 with the rule on lists: nil and empty are equivalent.
func TestCompareNil(t *testing.T) {
	if octet.Compare(nil, []byte{}) != 0 || octet.Compare([]byte{}, nil) != 0 || octet.Compare(nil, []byte{0}) != -1 || octet.Compare([]byte{0}, nil) != 1 {
		t.Error("Compare of nil")
	}
	if !octet.Equal(nil, []byte{}) || !octet.Equal(nil, nil) || octet.Equal(nil, []byte{0}) {
		t.Error("Equal of nil")
	}
}

// P1.4
func TestJoin(t *testing.T) {
	for _, x := range []struct {
		in   [][]byte
		want string
	}{
		{nil, ""},
		{[][]byte{}, ""},
		{[][]byte{nil}, ""},
		{[][]byte{nil, {}, nil}, ""},
		{[][]byte{[]byte("ab")}, "ab"},
		{[][]byte{[]byte("ab"), nil, []byte("c"), {}, []byte("def")}, "abcdef"},
		{[][]byte{[]byte("b"), []byte("a"), []byte("b")}, "bab"},
		{[][]byte{{0}, {255, 0}}, "\x00\xff\x00"},
	} {
		if b := octet.Join(x.in...); string(b) != x.want {
			t.Errorf("Join(%q) = %q", x.in, b)
		}
	}
	if b := octet.Join(); len(b) != 0 {
		t.Error(b)
	}
}

// P1.4
func TestCommon(t *testing.T) {
	for _, x := range []struct {
		in   []string
		want int
	}{
		{nil, 0},
		{[]string{""}, 0},
		{[]string{"abc"}, 3},
		{[]string{"abc", ""}, 0},
		{[]string{"", "abc"}, 0},
		{[]string{"abc", "abc"}, 3},
		{[]string{"abc", "abd"}, 2},
		{[]string{"abc", "ab"}, 2},
		{[]string{"ab", "abc"}, 2},
		{[]string{"abc", "xbc"}, 0},
		{[]string{"abc", "abd", "ab"}, 2},
		{[]string{"abcd", "abce", "axcd"}, 1},
		{[]string{"axcd", "abce", "abcd"}, 1},
		{[]string{"abcd", "a", "abcd"}, 1},
		{[]string{"a", "b", "a"}, 0},
		{[]string{"a\x00b", "a\x00c"}, 2},
		{[]string{"abXc", "abYc"}, 2},
	} {
		var in [][]byte
		for _, s := range x.in {
			in = append(in, []byte(s))
		}
		if n := octet.Common(in...); n != x.want {
			t.Errorf("Common(%q) = %d", x.in, n)
		}
	}
	if octet.Common() != 0 || octet.Common(nil) != 0 || octet.Common(nil, []byte("a")) != 0 {
		t.Error("Common of nothing")
	}
}

// P1.6: the arguments stay as they are, beyond their lengths too.
func TestArgumentsStay(t *testing.T) {
	a, b := []byte("abXX"), []byte("acYY")
	l := [][]byte{a[:2], b[:2], nil}
	octet.Join(l...)
	octet.Common(l...)
	octet.Compare(l[0], l[1])
	octet.Equal(l[0], l[1])
	octet.Hex(l[0])
	if string(a) != "abXX" || string(b) != "acYY" {
		t.Errorf("%q %q", a, b)
	}
	if len(l[0]) != 2 || len(l[1]) != 2 || &l[0][0] != &a[0] || &l[1][0] != &b[0] || l[2] != nil {
		t.Errorf("%q", l)
	}
}

// P1.6
func TestJoinIsNewMemory(t *testing.T) {
	roomy := append(make([]byte, 0, 16), "ab"...)
	for _, l := range [][][]byte{{roomy}, {roomy, nil}, {nil, roomy}, {roomy, []byte("cd")}} {
		out := octet.Join(l...)
		spoil(out)
		if string(roomy) != "ab" {
			t.Fatalf("%q", roomy)
		}
		again := octet.Join(l...)
		keep := string(again)
		spoil(octet.Join(l...))
		if string(again) != keep {
			t.Errorf("%q", again)
		}
	}
	if string(roomy[:4]) != "ab\x00\x00" {
		t.Errorf("%q", roomy[:4])
	}
}
