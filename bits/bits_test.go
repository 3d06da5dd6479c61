package bits_test

import (
	"bytes"
	"encoding/asn1"
	"math"
	"slices"
	"testing"

	"quittance/api"
	"quittance/bits"
	"quittance/octet"
)

// farNumbers are no numbers of unused bits, of flags or of bits.
var farNumbers = []int{math.MinInt, math.MinInt + 1, -1 << 32, -256, -8, -7, -2, -1, 1 << 20, 1 << 31, 1 << 32, 1<<32 + 1, 1 << 35, 1<<35 + 3, math.MaxInt - 7, math.MaxInt - 1, math.MaxInt}

// raw returns the bytes of a hex text.
func raw(t *testing.T, hex string) []byte {
	t.Helper()
	b, e := octet.Unhex(hex)
	if e != api.OK {
		t.Fatal(hex, e)
	}
	return b
}

// same reports whether both are the same string; no bytes may be nil.
func same(a, b bits.String) bool { return a.Unused == b.Unused && bytes.Equal(a.Bytes, b.Bytes) }

// none reports whether s is zero.
func none(s bits.String) bool { return s.Unused == 0 && len(s.Bytes) == 0 }

// letters returns the bits of s as the text of its bytes in base 2, from which the unused ones are cut.
func letters(s bits.String) string {
	var out []byte
	for _, x := range s.Bytes {
		for value := 128; value > 0; value /= 2 {
			out = append(out, "01"[int(x)/value%2])
		}
	}
	return string(out[:len(out)-s.Unused])
}

// bitStrings returns bit strings: all of up to one byte, those with all last bytes behind some others, and long ones.
func bitStrings() []bits.String {
	all := []bits.String{{}, {Bytes: []byte{}}}
	fronts := [][]byte{nil, {0}, {255}, {0x80}, {0x01}, {0, 0, 0}, {1, 2, 3}, {255, 255, 255}, {0, 0, 0, 0}, {1, 2, 3, 4}, bytes.Repeat([]byte{0xa5}, 300)}
	for _, front := range fronts {
		for unused := range 8 {
			for last := 0; last < 256; last += 1 << unused {
				all = append(all, bits.String{Unused: unused, Bytes: append(bytes.Clone(front), byte(last))})
			}
		}
	}
	return all
}

// wrongStrings returns what are no bit strings.
func wrongStrings() []bits.String {
	all := []bits.String{{Unused: 8}, {Unused: 9}, {Unused: 8, Bytes: []byte{}}}
	for unused := 1; unused < 8; unused++ {
		all = append(all, bits.String{Unused: unused}, bits.String{Unused: unused, Bytes: []byte{}})
		for last := range 256 {
			if last%(1<<unused) != 0 {
				all = append(all, bits.String{Unused: unused, Bytes: []byte{byte(last)}}, bits.String{Unused: unused, Bytes: []byte{0, byte(last)}}, bits.String{Unused: unused, Bytes: []byte{255, 0, 7, 1, byte(last)}})
			}
		}
	}
	for _, unused := range append([]int{8, 9, 15, 16, 64, 100, 128, 255, 256, 257}, farNumbers...) {
		for _, b := range [][]byte{nil, {}, {0}, {1}, {0x80}, {255}, {0, 0}, {255, 0}, {0x80, 0, 0, 0, 0}, make([]byte, 300)} {
			all = append(all, bits.String{Unused: unused, Bytes: b})
		}
	}
	return all
}

// P5.1
func TestRight(t *testing.T) {
	for _, s := range bitStrings() {
		if !bits.Right(s) {
			t.Error("not right", s)
		}
	}
	for _, s := range wrongStrings() {
		if bits.Right(s) {
			t.Error("right", s)
		}
	}
}

// P5.1: the last byte alone has unused bits.
func TestRightLooksAtTheLastByte(t *testing.T) {
	for s, want := range map[string]bool{"00": true, "0001": true, "01": false, "0102": true, "0101": false, "01ff00": true, "01fffe": true, "0100ff": false, "07ff80": true, "07ff00": true, "0780ff": false, "0780c0": false, "077f7f80": true} {
		b := raw(t, s)
		if got := bits.Right(bits.String{Unused: int(b[0]), Bytes: b[1:]}); got != want {
			t.Error(s, got)
		}
	}
}

// P5.2
func TestLen(t *testing.T) {
	for _, s := range bitStrings() {
		if n := bits.Len(s); n != len(letters(s)) {
			t.Error(s, n)
		}
	}
	for _, s := range wrongStrings() {
		if n := bits.Len(s); n != 0 {
			t.Error(s, n)
		}
	}
	for _, x := range []struct {
		unused, bytes, want int
	}{{0, 0, 0}, {0, 1, 8}, {1, 1, 7}, {7, 1, 1}, {0, 4, 32}, {7, 5, 33}, {3, 1 << 20, 1<<23 - 3}} {
		if n := bits.Len(bits.String{Unused: x.unused, Bytes: make([]byte, x.bytes)}); n != x.want {
			t.Error(x, n)
		}
	}
}

// P5.2: every bit, and those beyond both ends.
func TestHas(t *testing.T) {
	for _, s := range bitStrings() {
		text := letters(s)
		for i := -20; i < len(text)+20; i++ {
			want := i >= 0 && i < len(text) && text[i] == '1'
			if bits.Has(s, i) != want {
				t.Error(s, i, !want)
			}
		}
		for _, i := range farNumbers {
			if bits.Has(s, i) {
				t.Error(s, i)
			}
		}
	}
}

// P5.2: what is no bit string has no bits.
func TestHasOfWrongStrings(t *testing.T) {
	for _, s := range wrongStrings() {
		for i := -9; i < 50; i++ {
			if bits.Has(s, i) {
				t.Error(s, i)
			}
		}
		for _, i := range farNumbers {
			if bits.Has(s, i) {
				t.Error(s, i)
			}
		}
	}
}

// P5.2: the same bits as the library's.
func TestHasAsTheLibrary(t *testing.T) {
	for _, s := range bitStrings() {
		other := asn1.BitString{Bytes: s.Bytes, BitLength: 8*len(s.Bytes) - s.Unused}
		for i := range other.BitLength {
			if bits.Has(s, i) != (other.At(i) == 1) {
				t.Error(s, i)
			}
		}
	}
}

// flagLists returns lists of flags: each subset of some edges, each flag alone, all up to each one.
func flagLists() [][]int {
	all := [][]int{nil, {}}
	edges := []int{0, 1, 6, 7, 8, 9, 15, 16, 23, 24, 30, 31}
	for set := 1; set < 1<<len(edges); set++ {
		var l []int
		for k, i := range edges {
			if set>>k%2 == 1 {
				l = append(l, i)
			}
		}
		all = append(all, l)
	}
	for i := range 32 {
		all = append(all, []int{i})
		var upTo []int
		for k := 0; k <= i; k++ {
			upTo = append(upTo, k)
		}
		all = append(all, upTo)
	}
	return all
}

// stringOf returns the string of flags in the chapter's words: as many bits as the greatest flag needs, those of the flags are 1.
func stringOf(l []int) bits.String {
	if len(l) == 0 {
		return bits.String{}
	}
	count := l[len(l)-1] + 1
	s := bits.String{Unused: (8 - count%8) % 8, Bytes: make([]byte, (count+7)/8)}
	for _, i := range l {
		s.Bytes[i/8] += []byte{128, 64, 32, 16, 8, 4, 2, 1}[i%8]
	}
	return s
}

// P5.3, with the chapter's examples.
func TestFlagsByHand(t *testing.T) {
	for _, x := range []struct {
		l    []int
		want string
	}{
		{nil, "00"}, {[]int{0}, "0780"}, {[]int{0, 6}, "0182"}, {[]int{6}, "0102"}, {[]int{7}, "0001"}, {[]int{0, 1, 2, 3, 4, 5, 6, 7}, "00ff"}, {[]int{8}, "070080"}, {[]int{0, 8}, "078080"}, {[]int{9}, "060040"},
		{[]int{15}, "000001"}, {[]int{16}, "07000080"}, {[]int{24}, "0700000080"}, {[]int{30}, "0100000002"}, {[]int{31}, "0000000001"}, {[]int{0, 31}, "0080000001"}, {[]int{30, 31}, "0000000003"},
	} {
		s, e := bits.Of(x.l...)
		if b, f := bits.Contents(s); e != api.OK || f != api.OK || octet.Hex(b) != x.want {
			t.Error(x.l, octet.Hex(b), e, f)
		}
		s, e = bits.Parse(raw(t, x.want))
		if l, f := bits.Flags(s); e != api.OK || f != api.OK || !slices.Equal(l, x.l) {
			t.Error(x.want, l, e, f)
		}
	}
}

// P5.3, P5.5
func TestFlagsThereAndBack(t *testing.T) {
	for _, l := range flagLists() {
		s, e := bits.Of(l...)
		if e != api.OK || !same(s, stringOf(l)) || !bits.Right(s) {
			t.Error("Of", l, s, e)
		}
		if back, e := bits.Flags(s); e != api.OK || !slices.Equal(back, l) {
			t.Error("Flags", l, s, back, e)
		}
		for i := -1; i <= 40; i++ {
			if bits.Has(s, i) != slices.Contains(l, i) {
				t.Error("Has", l, i)
			}
		}
	}
}

// P5.3: numbers that are no flags, flags twice, and flags out of order.
func TestOfWrongLists(t *testing.T) {
	wrong := [][]int{{0, 0}, {31, 31}, {5, 5}, {1, 0}, {31, 0}, {31, 30}, {0, 2, 1}, {0, 1, 1}, {0, 0, 1}, {3, 1, 2}, {1, 2, 3, 2}, {2, 3, 4, 4}, {0, 31, 31}, {0, 5, 3, 31}, make([]int, 2), make([]int, 40), make([]int, 100000)}
	for _, i := range append([]int{32, 33, 63, 64, 255, 256}, farNumbers...) {
		wrong = append(wrong, []int{i}, []int{0, i}, []int{i, 0}, []int{i, 31}, []int{31, i}, []int{0, i, 31}, []int{i, i}, []int{1, 2, 3, i}, []int{i, i + 1})
	}
	for i := range 32 {
		wrong = append(wrong, []int{i, i}, []int{i, -1}, []int{-1, i}, []int{i, 32})
	}
	for _, l := range wrong {
		if s, e := bits.Of(l...); !none(s) || e != api.ErrArg {
			t.Error(l, s, e)
		}
	}
}

// P5.3: every flag that is one, and the last number before and behind them.
func TestOfOne(t *testing.T) {
	for i := -3; i <= 40; i++ {
		want := api.ErrArg
		if i >= 0 && i <= 31 {
			want = api.OK
		}
		if _, e := bits.Of(i); e != want {
			t.Error(i, e)
		}
	}
}

// P5.3: which strings are strings of flags: none or the last bit is 1, and of at most 32 bits.
func TestFlagsOfStrings(t *testing.T) {
	for _, s := range bitStrings() {
		text := letters(s)
		var want []int
		form := api.OK
		if n := len(text); n > 32 || n > 0 && text[n-1] == '0' {
			form = api.ErrForm
		} else {
			for i := range text {
				if text[i] == '1' {
					want = append(want, i)
				}
			}
		}
		l, e := bits.Flags(s)
		if e != form || !slices.Equal(l, want) {
			t.Error(s, l, e)
		}
		if again, f := bits.Of(l...); e == api.OK && (f != api.OK || !same(again, s)) { // no list of flags has two strings
			t.Error(s, l, again, f)
		}
	}
}

// P5.3: each error by hand; that of a string that is none comes first.
func TestFlagsErrors(t *testing.T) {
	for _, x := range []struct {
		s    bits.String
		want api.Errno
	}{
		{bits.String{Bytes: []byte{0x80}}, api.ErrForm}, {bits.String{Unused: 6, Bytes: []byte{0x80}}, api.ErrForm}, {bits.String{Unused: 7, Bytes: []byte{0x80}}, api.OK}, {bits.String{Unused: 7, Bytes: []byte{0}}, api.ErrForm},
		{bits.String{Bytes: []byte{0}}, api.ErrForm}, {bits.String{Bytes: make([]byte, 4)}, api.ErrForm}, {bits.String{Unused: 7, Bytes: []byte{0x80, 0}}, api.ErrForm},
		{bits.String{Bytes: []byte{0, 0, 0, 1}}, api.OK}, {bits.String{Bytes: []byte{255, 255, 255, 255}}, api.OK}, {bits.String{Bytes: []byte{255, 255, 255, 254}}, api.ErrForm},
		{bits.String{Unused: 7, Bytes: []byte{0, 0, 0, 1, 0x80}}, api.ErrForm}, {bits.String{Unused: 7, Bytes: []byte{0, 0, 0, 1, 0}}, api.ErrForm}, {bits.String{Bytes: []byte{0, 0, 0, 0, 1}}, api.ErrForm}, {bits.String{Bytes: bytes.Repeat([]byte{255}, 1<<20)}, api.ErrForm},
		{bits.String{Unused: 7, Bytes: []byte{0, 0, 0, 1, 1}}, api.ErrArg}, {bits.String{Unused: 1, Bytes: []byte{1}}, api.ErrArg}, {bits.String{Unused: 8, Bytes: make([]byte, 9)}, api.ErrArg}, {bits.String{Unused: -1, Bytes: []byte{0}}, api.ErrArg}, {bits.String{Unused: 1}, api.ErrArg},
	} {
		if l, e := bits.Flags(x.s); e != x.want || e != api.OK && len(l) != 0 {
			t.Error(x.s, l, e)
		}
	}
	for _, s := range wrongStrings() {
		if l, e := bits.Flags(s); len(l) != 0 || e != api.ErrArg {
			t.Error(s, l, e)
		}
	}
}

// P5.5: arguments are not changed, not even behind their ends, and results are new memory.
func TestFlagsMemory(t *testing.T) {
	room := []int{0, 6, 9, 9}
	a, _ := bits.Of(room[:2]...)
	b, _ := bits.Of(room[:2]...)
	if !slices.Equal(room, []int{0, 6, 9, 9}) {
		t.Error(room)
	}
	room[0] = 3
	a.Bytes[0] = 2
	if b.Bytes[0] != 0x82 {
		t.Error("two strings share their bytes", b)
	}
	back := []byte{0x82, 7, 7}
	s := bits.String{Unused: 1, Bytes: back[:1]}
	l, _ := bits.Flags(s)
	m, _ := bits.Flags(s)
	l[0] = 9
	if m[0] != 0 || !bytes.Equal(back, []byte{0x82, 7, 7}) {
		t.Error(m, back)
	}
	bits.Right(s)
	bits.Len(s)
	bits.Has(s, 0)
	if !bytes.Equal(back, []byte{0x82, 7, 7}) {
		t.Error(back)
	}
}
