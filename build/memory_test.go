package build_test

import (
	"bytes"
	"slices"
	"testing"

	"quittance/api"
	"quittance/build"
	"quittance/head"
	"quittance/octet"
)

// roomy returns the bytes of each hex text as pieces of one array with room behind each, in a list with room behind it, and a function that reports whether all of that is as it was.
func roomy(t *testing.T, hex ...string) (l [][]byte, kept func() bool) {
	t.Helper()
	const room = 8
	var array []byte
	for _, x := range hex {
		array = append(append(array, raw(t, x)...), bytes.Repeat([]byte{0xee}, room)...)
	}
	all := make([][]byte, 0, len(hex)+1)
	at := 0
	for _, x := range hex {
		all = append(all, array[at:at+len(x)/2])
		at += len(x)/2 + room
	}
	all = append(all, []byte("behind"))
	before := bytes.Clone(array)
	begins := slices.Clone(all)
	return all[:len(hex)], func() bool {
		for i, b := range all {
			if len(b) != len(begins[i]) || len(b) > 0 && &b[0] != &begins[i][0] {
				return false
			}
		}
		return bytes.Equal(array, before) && string(all[len(hex)]) == "behind"
	}
}

// spoil writes over all of its arguments, and over the memory behind their ends.
func spoil(l ...[]byte) {
	for _, b := range l {
		b = b[:cap(b)]
		for i := range b {
			b[i] += 93 // also more than once, as what is behind an end may belong to another argument
		}
	}
}

// P8.6: arguments are not changed, and results are new memory.
func TestMemoryOfElements(t *testing.T) {
	hex := []string{"020105", "0101ff", "", "0500", "0500", "0100"}
	for name, f := range map[string]func(l [][]byte) ([]byte, api.Errno){
		"Sequence":                   func(l [][]byte) ([]byte, api.Errno) { return build.Sequence(l...) },
		"SetOf":                      func(l [][]byte) ([]byte, api.Errno) { return build.SetOf(l...) },
		"Explicit":                   func(l [][]byte) ([]byte, api.Errno) { return build.Explicit(7, l...) },
		"Explicit of a wrong number": func(l [][]byte) ([]byte, api.Errno) { return build.Explicit(-7, l...) },
		"Implicit":                   func(l [][]byte) ([]byte, api.Errno) { return build.Implicit(7, l[0]) },
		"Implicit of too few":        func(l [][]byte) ([]byte, api.Errno) { return build.Implicit(7, l[0][:2]) },
		"Implicit of too many":       func(l [][]byte) ([]byte, api.Errno) { return build.Implicit(7, l[0][:cap(l[0])]) },
	} {
		for n := 1; n <= len(hex); n++ {
			l, kept := roomy(t, hex[:n]...)
			a, _ := f(l)
			b, _ := f(l)
			want := bytes.Clone(a)
			if !bytes.Equal(a, b) {
				t.Error(name, n, "another result")
			}
			spoil(a)
			if !kept() || !bytes.Equal(b, want) {
				t.Error(name, n, "an argument is changed, or a result is shared")
			}
			spoil(l...)
			if !bytes.Equal(b, want) {
				t.Error(name, n, "an argument is retained")
			}
		}
	}
}

// P8.6: what is put is copied.
func TestMemoryOfPut(t *testing.T) {
	for _, set := range []bool{false, true} {
		for n := 1; n <= 5; n++ {
			l, kept := roomy(t, []string{"020105", "0101ff", "", "0500", "0100"}[:n]...)
			want := bytes.Join(l, nil)
			if set {
				want = bytes.Join(ascending(l), nil)
			}
			s := build.New()
			if set {
				s.OpenSet()
			} else {
				s.Open(seq)
			}
			s.Put(l...)
			s.Put([]byte{0xdf, 0x1f, 0})
			if !kept() {
				t.Error(n, "an argument is changed")
			}
			list := slices.Clone(l)
			clear(l)
			spoil(list...)
			s.Shut()
			b, e := s.Bytes()
			if e != api.OK || !bytes.Equal(b[2:], append(want, 0xdf, 0x1f, 0)) {
				t.Error(n, set, octet.Hex(b), e)
			}
			spoil(list...)
			if c, _ := s.Bytes(); !bytes.Equal(b, c) {
				t.Error(n, set, "an argument is retained")
			}
		}
	}
}

// P8.6: what Bytes returned is neither seen in the sheet nor changed by its further use.
func TestMemoryOfBytes(t *testing.T) {
	s := build.New()
	var want []byte
	var old, copies [][]byte
	for i := range 200 {
		s.Put([]byte{byte(i), 7})
		want = append(want, byte(i), 7)
		if i%3 == 0 {
			s.Open(seq)
			s.Put([]byte{byte(i)})
			s.Shut()
			want = append(want, 0x30, 1, byte(i))
		}
		a, _ := s.Bytes()
		spoil(a)
		_ = append(a, 1, 2, 3, 4)
		b, e := s.Bytes()
		if e != api.OK || !bytes.Equal(b, want) {
			t.Fatal(i, octet.Hex(b), e)
		}
		old, copies = append(old, b), append(copies, bytes.Clone(b))
	}
	for i := range old {
		if !bytes.Equal(old[i], copies[i]) {
			t.Error(i, "changed by a later call")
		}
	}
	own, _ := s.Bytes()
	s.Put(own, own) // its own bytes are an argument like others
	spoil(own)
	if b, e := s.Bytes(); e != api.OK || !bytes.Equal(b, bytes.Repeat(want, 3)) {
		t.Error(len(b), e)
	}
}

// P8.6: two sheets that are given the same are apart.
func TestMemoryOfTwoSheets(t *testing.T) {
	l, kept := roomy(t, "0500", "0100")
	a, b := build.New(), build.New()
	a.OpenSet()
	b.Open(seq)
	a.Put(l...)
	b.Put(l...)
	a.Shut()
	b.Put([]byte{9})
	b.Shut()
	has(t, a, "310401000500", api.OK, 0)
	has(t, b, "30050500010009", api.OK, 0)
	x, _ := a.Bytes()
	b.Put(x)
	spoil(x)
	has(t, a, "310401000500", api.OK, 0)
	has(t, b, "30050500010009310401000500", api.OK, 0)
	if !kept() {
		t.Error("an argument is changed")
	}
}

// P8.6: no element shares memory with another one, or with the cursor.
func TestMemoryOfWholes(t *testing.T) {
	b := raw(t, "0500"+"0101ff"+"30050500020105"+"0500")
	c := octet.New(b)
	c.Take(2)
	l, e := build.Wholes(c)
	want, _ := cut(bytes.Clone(b[2:]))
	if e != api.OK || len(l) != 3 || !same(l, want) {
		t.Fatal(texts(l), e)
	}
	for i := range l {
		spoil(l[i])
		_ = append(l[i], 1, 2, 3, 4)
		for j := i + 1; j < len(l); j++ {
			if !bytes.Equal(l[j], want[j]) {
				t.Error(i, j, "two elements are shared")
			}
		}
	}
	c.Back(2)
	again, e := build.Wholes(c)
	if e != api.OK || !same(again, want) {
		t.Error(texts(again), e)
	}
	for i := range l {
		l[i] = nil
	}
	c.Back(0)
	if octet.Hex(c.Rest()) != octet.Hex(b) || !same(again, want) {
		t.Error("the cursor's bytes are shared")
	}
}

// P8.5, P8.6: a cursor within another one moves alone.
func TestWholesOfContents(t *testing.T) {
	outer := octet.New(raw(t, "3005"+"0500"+"0101"+"ff"+"0500"))
	inner, e := head.Open(outer, seq)
	if e != api.OK {
		t.Fatal(e)
	}
	if l, e := build.Wholes(inner); e != api.OK || !slices.Equal(texts(l), []string{"0500", "0101ff"}) || inner.Left() != 0 || outer.At() != 7 {
		t.Error(texts(l), e, inner.Left(), outer.At())
	}
	if l, e := build.Wholes(outer); e != api.OK || !slices.Equal(texts(l), []string{"0500"}) {
		t.Error(texts(l), e)
	}
}
