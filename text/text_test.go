package text_test

import (
	"bytes"
	"math"
	"slices"
	"strings"
	"testing"

	"quittance/api"
	"quittance/head"
	"quittance/octet"
	"quittance/text"
)

// kinds are the six kinds; those of narrow have one byte a character.
var (
	kinds  = []int{12, 19, 20, 22, 26, 30}
	narrow = []int{19, 20, 22, 26}
)

// farNumbers are neither kinds nor characters; some would be one of both if they were cut to 8, 16 or 32 bits.
var farNumbers = []int{math.MinInt, math.MinInt + 65, -1 << 32, -1<<32 + 12, -1<<32 + 65, -1 << 31, -1<<31 + 65, -0x110000, -65536 + 65, -256 + 65, -65, -19, -12, -2, -1, 0x110000, 0x110001, 0x200000, 1<<24 + 65, 1 << 31, 1<<31 + 65, 1 << 32, 1<<32 + 12, 1<<32 + 19, 1<<32 + 65, 1<<40 + 65, math.MaxInt - 1, math.MaxInt}

// wrongKinds returns numbers that are no kinds.
func wrongKinds() []int {
	all := slices.Clone(farNumbers)
	for k := range 300 {
		if !slices.Contains(kinds, k) {
			all = append(all, k)
		}
	}
	return all
}

// edgeSigns are the least and the greatest characters of each kind and of each length in UTF-8, and those next to them.
var edgeSigns = []int{0, 1, 9, 10, 13, 31, 32, 33, 34, 38, 39, 41, 42, 43, 47, 48, 57, 58, 59, 60, 61, 62, 63, 64, 65, 90, 91, 95, 96, 97, 122, 123, 126, 127, 128, 129, 159, 160, 233, 255, 256, 2047, 2048, 8364, 0xd7fe, 0xd7ff, 0xd800, 0xd801, 0xdbff, 0xdc00, 0xdffe, 0xdfff, 0xe000, 0xe001, 0xfeff, 0xfffc, 0xfffd, 0xfffe, 0xffff, 0x10000, 0x10001, 0x1f600, 0x10fffe, 0x10ffff, 0x110000, 0x110001}

const printable = "ABCDEFGHIJKLMNOPQRSTUVWXYZabcdefghijklmnopqrstuvwxyz0123456789 '()+,-./:=?"

// raw returns the bytes of a hex text.
func raw(t *testing.T, hex string) []byte {
	t.Helper()
	b, e := octet.Unhex(hex)
	if e != api.OK {
		t.Fatal(hex, e)
	}
	return b
}

// none reports whether x is zero.
func none(x text.Text) bool { return x.Kind == 0 && len(x.Bytes) == 0 }

// same reports whether both are the same text; no bytes may be nil.
func same(a, b text.Text) bool { return a.Kind == b.Kind && bytes.Equal(a.Bytes, b.Bytes) }

// mayHave reports, in the chapter's words, whether a kind has a character.
func mayHave(kind, sign int) bool {
	half := sign >= 0xd800 && sign <= 0xdfff
	switch kind {
	case 12:
		return sign >= 0 && sign <= 0x10ffff && !half
	case 19:
		return sign >= 0 && sign < 256 && bytes.IndexByte([]byte(printable), byte(sign)) >= 0
	case 20:
		return sign >= 0 && sign <= 255
	case 22:
		return sign >= 0 && sign < 128
	case 26:
		return sign >= 32 && sign <= 126
	case 30:
		return sign >= 0 && sign <= 65535 && !half
	}
	return false
}

// spell returns a number of up to 21 bits in UTF-8 of that many bytes, as few as needed or not.
func spell(sign, size int) []byte {
	if size == 1 {
		return []byte{byte(sign)}
	}
	b := make([]byte, size)
	for i := size - 1; i > 0; i-- {
		b[i] = byte(0x80 + sign%64)
		sign /= 64
	}
	b[0] = byte([]int{0, 0, 0xc0, 0xe0, 0xf0}[size] + sign)
	return b
}

// bytesOf returns the bytes of a character in a text of a kind that has it.
func bytesOf(kind, sign int) []byte {
	switch kind {
	case 12:
		size := 1
		for _, least := range []int{0x80, 0x800, 0x10000} {
			if sign >= least {
				size++
			}
		}
		return spell(sign, size)
	case 30:
		return []byte{byte(sign / 256), byte(sign % 256)}
	}
	return []byte{byte(sign)}
}

// signsOf returns the characters of bytes, and whether they are a text of that kind: for each place, the one character whose bytes are there.
func signsOf(kind int, b []byte) ([]int, bool) {
	if !slices.Contains(kinds, kind) {
		return nil, false
	}
	var signs []int
	for len(b) > 0 {
		sign := -1
		for _, guess := range guesses(kind, b) {
			if mayHave(kind, guess) && bytes.HasPrefix(b, bytesOf(kind, guess)) {
				sign = guess
			}
		}
		if sign < 0 {
			return nil, false
		}
		signs = append(signs, sign)
		b = b[len(bytesOf(kind, sign)):]
	}
	return signs, true
}

// guesses returns the numbers that b may begin with in a text of that kind.
func guesses(kind int, b []byte) []int {
	if kind == 30 {
		if len(b) < 2 {
			return nil
		}
		return []int{int(b[0])*256 + int(b[1])}
	}
	all := []int{int(b[0])}
	for size, lead := range []int{2: 32, 3: 16, 4: 8} { // as many low bits of the first byte as count
		if size < 2 || size > len(b) || kind != 12 {
			continue
		}
		sign := int(b[0]) % lead
		for _, x := range b[1:size] {
			sign = sign*64 + int(x)%64
		}
		all = append(all, sign)
	}
	return all
}

// check holds Right, Signs, Utf8, Write and, for what is a text, Of against the chapter's words.
func check(t *testing.T, kind int, b []byte) {
	t.Helper()
	x := text.Text{Kind: kind, Bytes: b}
	want, right := signsOf(kind, b)
	if text.Right(x) != right {
		t.Fatalf("Right(%d, %x) is not %v", kind, b, right)
	}
	signs, e := text.Signs(x)
	s, f := text.Utf8(x)
	w, g := text.Write(x)
	if !right {
		if e != api.ErrForm || f != api.ErrForm || g != api.ErrForm || len(signs) != 0 || s != "" || len(w) != 0 {
			t.Fatalf("%d, %x: %v, %d, %q, %d, %x, %d", kind, b, signs, e, s, f, w, g)
		}
		return
	}
	var all []byte
	for _, sign := range want {
		all = append(all, bytesOf(12, sign)...)
	}
	if e != api.OK || f != api.OK || g != api.OK || !slices.Equal(signs, want) || s != string(all) || !bytes.HasSuffix(w, b) {
		t.Fatalf("%d, %x: %v, %d, %q, %d, %x, %d", kind, b, signs, e, s, f, w, g)
	}
	if y, e := text.Of(kind, signs...); e != api.OK || !same(x, y) {
		t.Fatalf("Of(%d, %v) = %x, %d", kind, signs, y.Bytes, e)
	}
	if y, e := text.FromUtf8(kind, s); e != api.OK || !same(x, y) {
		t.Fatalf("FromUtf8(%d, %q) = %x, %d", kind, s, y.Bytes, e)
	}
}

// P6.1
func TestKinds(t *testing.T) {
	want := []int{head.Utf8, head.Printable, head.Teletex, head.Ia5, head.Visible, head.Bmp}
	if l := text.Kinds(); !slices.Equal(l, want) || !slices.Equal(l, kinds) || !slices.IsSorted(l) {
		t.Error(l)
	}
	text.Kinds()[0] = 7
	_ = append(text.Kinds()[:2], 9)
	if l := text.Kinds(); !slices.Equal(l, want) {
		t.Error("two results share memory", l)
	}
}

// P6.1: the chapter's examples.
func TestExamples(t *testing.T) {
	bmp := text.Text{Kind: head.Bmp, Bytes: []byte{0, 0x41, 0x20, 0xac}}
	if l, e := text.Signs(bmp); e != api.OK || !slices.Equal(l, []int{65, 8364}) {
		t.Error(l, e)
	}
	if s, e := text.Utf8(bmp); e != api.OK || s != "\x41\xe2\x82\xac" {
		t.Errorf("%q %d", s, e)
	}
	if text.Right(text.Text{Kind: head.Printable, Bytes: []byte("a*")}) || text.Right(text.Text{Kind: head.Utf8, Bytes: []byte{0xc0, 0x80}}) {
		t.Error("right")
	}
}

// P6.1: every byte in the kinds of one byte a character, alone and between others, with the bounds by hand.
func TestEveryByte(t *testing.T) {
	for x := range 256 {
		want := map[int]bool{19: strings.IndexByte(printable, byte(x)) >= 0, 20: true, 22: x < 128, 26: x >= 32 && x <= 126}
		for _, kind := range narrow {
			for _, b := range [][]byte{{byte(x)}, {'a', byte(x)}, {byte(x), 'a'}, {'a', byte(x), 'b', 'c'}, {byte(x), byte(x)}} {
				if text.Right(text.Text{Kind: kind, Bytes: b}) != want[kind] {
					t.Errorf("%d %x", kind, b)
				}
				check(t, kind, b)
			}
		}
	}
	for kind, l := range map[int]map[byte]bool{
		19: {31: false, 32: true, 33: false, '"': false, '&': false, '\'': true, '(': true, ')': true, '*': false, '+': true, ',': true, '-': true, '.': true, '/': true, '0': true, '9': true, ':': true, ';': false, '<': false, '=': true, '>': false, '?': true, '@': false, 'A': true, 'Z': true, '[': false, '_': false, '`': false, 'a': true, 'z': true, '{': false, '~': false, 9: false, 127: false, 128: false, 160: false, 233: false},
		20: {0: true, 31: true, 32: true, 126: true, 127: true, 128: true, 255: true},
		22: {0: true, 31: true, 32: true, 126: true, 127: true, 128: false, 255: false},
		26: {0: false, 31: false, 32: true, 126: true, 127: false, 128: false, 255: false},
	} {
		for x, want := range l {
			if text.Right(text.Text{Kind: kind, Bytes: []byte{x}}) != want {
				t.Error(kind, x, !want)
			}
		}
	}
}

// P6.1: UTF-8 by hand.
func TestUtf8ByHand(t *testing.T) {
	for hex, want := range map[string][]int{
		"": {}, "00": {0}, "7f": {127}, "c280": {128}, "dfbf": {2047}, "e0a080": {2048}, "ed9fbf": {0xd7ff}, "ee8080": {0xe000}, "efbfbd": {0xfffd}, "efbfbf": {0xffff}, "efbbbf41": {0xfeff, 65}, "f0908080": {0x10000}, "f48fbfbf": {0x10ffff}, "41c3a9e282acf09f9880": {65, 233, 8364, 0x1f600},
	} {
		x := text.Text{Kind: head.Utf8, Bytes: raw(t, hex)}
		if l, e := text.Signs(x); e != api.OK || !text.Right(x) || !slices.Equal(l, want) {
			t.Error(hex, l, e)
		}
		if s, e := text.Utf8(x); e != api.OK || s != string(x.Bytes) {
			t.Errorf("%s: %q, %d", hex, s, e)
		}
	}
	for _, hex := range []string{
		"c080", "c0af", "c181", "c1bf", "e08080", "e09fbf", "e08181", "f0808080", "f08fbfbf", "f0808181", // more bytes than needed
		"eda080", "edafbf", "edb080", "edbfbf", "eda080edb080", // d800 to dfff
		"f4908080", "f4bfbfbf", "f5808080", "f7bfbfbf", "f888808080", "fbbfbfbfbf", "fc8480808080", "fdbfbfbfbfbf", "fe", "ff", // beyond 10ffff
		"c3", "e2", "e282", "f0", "f09f", "f09f98", "41c3", "c341", "e28241", "e241", "f09f9841", "f041", "c3c3a9", "e282c3a9", // cut off
		"80", "bf", "4180", "c3a980", "80c3a9", "e282acac", "a9", // stray
	} {
		for _, around := range []string{"", "41", "c3a9"} {
			check(t, head.Utf8, raw(t, around+hex+around))
			if text.Right(text.Text{Kind: head.Utf8, Bytes: raw(t, hex+around)}) {
				t.Error(hex)
			}
		}
	}
}

// P6.1: Bmp by hand.
func TestBmpByHand(t *testing.T) {
	for hex, want := range map[string][]int{"": {}, "0000": {0}, "0041": {65}, "4100": {0x4100}, "d7ff": {0xd7ff}, "e000": {0xe000}, "fffd": {0xfffd}, "ffff": {0xffff}, "004120ac": {65, 8364}, "00d8": {0xd8}, "00d800d8": {0xd8, 0xd8}} {
		if l, e := text.Signs(text.Text{Kind: head.Bmp, Bytes: raw(t, hex)}); e != api.OK || !slices.Equal(l, want) {
			t.Error(hex, l, e)
		}
		check(t, head.Bmp, raw(t, hex))
	}
	for _, hex := range []string{"00", "41", "d8", "ff", "000000", "004120", "d7ff00", "d800", "dbff", "dc00", "dfff", "d800dc00", "d83dde00", "0041d800", "d8000041", "dfff00"} {
		if text.Right(text.Text{Kind: head.Bmp, Bytes: raw(t, hex)}) {
			t.Error(hex)
		}
		check(t, head.Bmp, raw(t, hex))
	}
}

// P6.1, P6.2, P6.5: all byte strings of up to two bytes in each kind.
func TestAllShort(t *testing.T) {
	for _, kind := range append([]int{0, 16, 17, 28, 31, -1}, kinds...) {
		check(t, kind, nil)
		check(t, kind, []byte{})
		for x := range 1 << 16 {
			check(t, kind, []byte{byte(x >> 8), byte(x)})
		}
	}
}

// P6.1, P6.2, P6.5: byte strings of up to four bytes, of those at which something changes.
func TestBytesOfEdges(t *testing.T) {
	some := []byte{0, 0x41, 0x7f, 0x80, 0x8f, 0x90, 0x9f, 0xa0, 0xbf, 0xc1, 0xc2, 0xd7, 0xd8, 0xdf, 0xe0, 0xed, 0xee, 0xef, 0xf0, 0xf4, 0xf5, 0xff}
	var all func(kind int, b []byte, more int)
	all = func(kind int, b []byte, more int) {
		check(t, kind, b)
		for _, x := range some {
			if more > 0 {
				all(kind, append(b, x), more-1)
			}
		}
	}
	for _, kind := range kinds {
		more := 3
		if kind == head.Utf8 {
			more = 4
		}
		all(kind, make([]byte, 0, 8), more)
	}
}

// P6.1: every number in each length of UTF-8 that has room for it.
func TestUtf8EveryLength(t *testing.T) {
	for sign := range 1 << 21 {
		for size, room := range []int{0, 0x80, 0x800, 0x10000, 1 << 21} {
			if sign >= room {
				continue
			}
			b := spell(sign, size)
			want := mayHave(head.Utf8, sign) && len(bytesOf(head.Utf8, sign)) == size
			if text.Right(text.Text{Kind: head.Utf8, Bytes: b}) != want {
				t.Errorf("%x in %x", sign, b)
			}
		}
	}
}

// P6.1: what has no kind is never valid, whatever its bytes.
func TestWrongKinds(t *testing.T) {
	for _, kind := range wrongKinds() {
		for _, b := range [][]byte{nil, {}, {65}, {0, 65}, []byte("abc"), {255}} {
			check(t, kind, b)
			if text.Right(text.Text{Kind: kind, Bytes: b}) {
				t.Error(kind, b)
			}
		}
	}
	if text.Right(text.Text{}) {
		t.Error("the zero text is right")
	}
	for _, kind := range kinds {
		if !text.Right(text.Text{Kind: kind}) || !text.Right(text.Text{Kind: kind, Bytes: []byte{}}) {
			t.Error(kind)
		}
	}
}

// P6.2, P6.5: every character alone, in each kind.
func TestOfEverySign(t *testing.T) {
	for _, kind := range kinds {
		for sign := -300; sign < 0x110100; sign++ {
			if kind != head.Utf8 && sign == 0x10100 {
				sign = 0x10ff00
			}
			x, e := text.Of(kind, sign)
			if !mayHave(kind, sign) {
				if e != api.ErrForm || !none(x) {
					t.Error(kind, sign, x, e)
				}
				continue
			}
			if e != api.OK || x.Kind != kind || !bytes.Equal(x.Bytes, bytesOf(kind, sign)) {
				t.Error(kind, sign, x, e)
			}
			if l, e := text.Signs(x); e != api.OK || len(l) != 1 || l[0] != sign {
				t.Error(kind, sign, l, e)
			}
		}
	}
}

// P6.2, P6.5: several characters, one of which may not be there.
func TestOfSeveral(t *testing.T) {
	for _, kind := range kinds {
		for _, a := range append(edgeSigns, farNumbers...) {
			for _, b := range append(edgeSigns, farNumbers...) {
				for _, l := range [][]int{{a, b}, {65, a, b}, {a, 65, b}, {a, b, 65}} {
					var want []byte
					right := true
					for _, sign := range l {
						right = right && mayHave(kind, sign)
						if right {
							want = append(want, bytesOf(kind, sign)...)
						}
					}
					x, e := text.Of(kind, l...)
					if right && (e != api.OK || x.Kind != kind || !bytes.Equal(x.Bytes, want)) || !right && (e != api.ErrForm || !none(x)) {
						t.Error(kind, l, x, e)
					}
					if back, e := text.Signs(x); right && (e != api.OK || !slices.Equal(back, l)) {
						t.Error(kind, l, back, e)
					}
				}
			}
		}
	}
}

// P6.2: characters that are negative, or too great for a kind, by hand.
func TestOfByHand(t *testing.T) {
	for _, x := range []struct {
		kind  int
		signs []int
		want  string
		e     api.Errno
	}{
		{head.Utf8, []int{65, 233, 8364, 0x1f600}, "41c3a9e282acf09f9880", api.OK}, {head.Utf8, []int{0xd7ff, 0xe000, 0x10ffff}, "ed9fbfee8080f48fbfbf", api.OK}, {head.Utf8, []int{0xd800}, "", api.ErrForm}, {head.Utf8, []int{0xdfff}, "", api.ErrForm}, {head.Utf8, []int{0x110000}, "", api.ErrForm}, {head.Utf8, []int{-1}, "", api.ErrForm},
		{head.Bmp, []int{65, 8364}, "004120ac", api.OK}, {head.Bmp, []int{0xd7ff, 0xe000, 0xffff}, "d7ffe000ffff", api.OK}, {head.Bmp, []int{0xd800}, "", api.ErrForm}, {head.Bmp, []int{0xd83d, 0xde00}, "", api.ErrForm}, {head.Bmp, []int{0x10000}, "", api.ErrForm}, {head.Bmp, []int{0x10041}, "", api.ErrForm},
		{head.Printable, []int{65, 32}, "4120", api.OK}, {head.Printable, []int{65, 59}, "", api.ErrForm}, {head.Printable, []int{0xfffd}, "", api.ErrForm}, {head.Printable, []int{256 + 65}, "", api.ErrForm},
		{head.Teletex, []int{0, 255}, "00ff", api.OK}, {head.Teletex, []int{256}, "", api.ErrForm}, {head.Teletex, []int{-1}, "", api.ErrForm}, {head.Ia5, []int{0, 127}, "007f", api.OK}, {head.Ia5, []int{128}, "", api.ErrForm}, {head.Visible, []int{32, 126}, "207e", api.OK}, {head.Visible, []int{31}, "", api.ErrForm}, {head.Visible, []int{127}, "", api.ErrForm},
		{head.Utf8, nil, "", api.OK}, {head.Bmp, nil, "", api.OK}, {head.Printable, []int{}, "", api.OK}, {head.Teletex, nil, "", api.OK}, {head.Ia5, nil, "", api.OK}, {head.Visible, nil, "", api.OK},
	} {
		got, e := text.Of(x.kind, x.signs...)
		if e != x.e || octet.Hex(got.Bytes) != x.want || e == api.OK && got.Kind != x.kind || e != api.OK && !none(got) {
			t.Error(x, got, e)
		}
	}
}

// P6.2: what is no kind, ahead of what are no characters and no UTF-8.
func TestOfWrongKinds(t *testing.T) {
	for _, kind := range wrongKinds() {
		for _, l := range [][]int{nil, {65}, {-1}, {0xd800}, {0x110000}} {
			if x, e := text.Of(kind, l...); !none(x) || e != api.ErrArg {
				t.Error(kind, l, x, e)
			}
		}
		for _, s := range []string{"", "a", "\xff", "\xed\xa0\x80"} {
			if x, e := text.FromUtf8(kind, s); !none(x) || e != api.ErrArg {
				t.Error(kind, s, x, e)
			}
		}
	}
}

// P6.2: strings of each character, and strings that are not UTF-8, in each kind.
func TestFromUtf8(t *testing.T) {
	for _, kind := range kinds {
		for _, sign := range edgeSigns {
			if !mayHave(head.Utf8, sign) {
				continue
			}
			for _, l := range [][]int{{sign}, {65, sign}, {sign, 65, sign}} {
				var s string
				for _, x := range l {
					s += string(bytesOf(head.Utf8, x))
				}
				want, f := text.Of(kind, l...)
				if x, e := text.FromUtf8(kind, s); e != f || !same(x, want) {
					t.Error(kind, l, x, e, f)
				}
			}
		}
		for _, s := range []string{"\xff", "a\xff", "\xffa", "\x80", "\xc3", "a\xc3", "\xc0\x80", "\xed\xa0\x80", "\xf4\x90\x80\x80", "\xe2\x82", "\xe9"} {
			if x, e := text.FromUtf8(kind, s); !none(x) || e != api.ErrForm {
				t.Errorf("%d, %q: %v, %d", kind, s, x, e)
			}
		}
		if x, e := text.FromUtf8(kind, ""); e != api.OK || x.Kind != kind || len(x.Bytes) != 0 {
			t.Error(kind, x, e)
		}
	}
	for _, x := range []struct {
		kind    int
		s, want string
		e       api.Errno
	}{{head.Bmp, "a€", "006120ac", api.OK}, {head.Bmp, "😀", "", api.ErrForm}, {head.Teletex, "é", "e9", api.OK}, {head.Teletex, "€", "", api.ErrForm}, {head.Ia5, "é", "", api.ErrForm}, {head.Utf8, "é", "c3a9", api.OK}, {head.Utf8, "\ufffd", "efbfbd", api.OK}, {head.Bmp, "\ufffd", "fffd", api.OK}, {head.Printable, "a b", "612062", api.OK}, {head.Printable, "a@b", "", api.ErrForm}, {head.Visible, "a@b", "614062", api.OK}} {
		if y, e := text.FromUtf8(x.kind, x.s); e != x.e || octet.Hex(y.Bytes) != x.want {
			t.Error(x, y, e)
		}
	}
}

// P6.1: the bytes of the kinds of one byte a character are characters, not UTF-8.
func TestUtf8OfTeletex(t *testing.T) {
	for _, x := range []struct{ in, want string }{{"\xe9", "é"}, {"\xc3\xa9", "Ã©"}, {"\x80\xff", "\u0080ÿ"}, {"a", "a"}, {"", ""}} {
		if s, e := text.Utf8(text.Text{Kind: head.Teletex, Bytes: []byte(x.in)}); e != api.OK || s != x.want {
			t.Errorf("%q: %q, %d", x.in, s, e)
		}
	}
}

// P6.4: the three cases.
func TestLeast(t *testing.T) {
	for s, want := range map[string]int{
		"": 19, "a b": 19, printable: 19, " ": 19, "é": 12, "a@b": 12, "a;b": 12, "a*": 12, "a_b": 12, "\x00": 12, "\t": 12, "\x7f": 12, "a€": 12, "\ufffd": 12, "\U0010ffff": 12, "\ud7ff\ue000": 12,
		"\xff": 20, "\x80": 20, "\xe9": 20, "a\xe9": 20, "\xc0\x80": 20, "\xed\xa0\x80": 20, "\xf4\x90\x80\x80": 20, "é\xc3": 20, "\x00A\xd8": 20,
	} {
		x := text.Least(s)
		if x.Kind != want || string(x.Bytes) != s || !text.Right(x) {
			t.Errorf("%q: %v", s, x)
		}
	}
	for x := range 1 << 16 {
		b := []byte{byte(x >> 8), byte(x)}
		want := 20
		if _, ok := signsOf(12, b); ok {
			want = 12
		}
		if _, ok := signsOf(19, b); ok {
			want = 19
		}
		if y := text.Least(string(b)); y.Kind != want || !bytes.Equal(y.Bytes, b) {
			t.Errorf("%x: %v, want %d", b, y, want)
		}
	}
}

// P6.5: arguments are not changed, not even behind their ends, and results are new memory.
func TestMemory(t *testing.T) {
	back := []byte{0, 65, 0, 66, 7, 7}
	x := text.Text{Kind: head.Bmp, Bytes: back[:4]}
	text.Right(x)
	text.Utf8(x)
	l, _ := text.Signs(x)
	m, _ := text.Signs(x)
	l[0] = 9
	if m[0] != 65 || !bytes.Equal(back, []byte{0, 65, 0, 66, 7, 7}) {
		t.Error(m, back)
	}
	room := []int{65, 66, 9, 9}
	for _, kind := range kinds {
		a, _ := text.Of(kind, room[:2]...)
		b, _ := text.Of(kind, room[:2]...)
		c, _ := text.FromUtf8(kind, "AB")
		d, _ := text.FromUtf8(kind, "AB")
		want := bytes.Clone(b.Bytes)
		for _, y := range []text.Text{a, c} {
			clear(y.Bytes[:cap(y.Bytes)])
		}
		if !bytes.Equal(b.Bytes, want) || !bytes.Equal(d.Bytes, want) || !slices.Equal(room, []int{65, 66, 9, 9}) {
			t.Error(kind, b, d, room)
		}
	}
	a, b := text.Least("ab"), text.Least("ab")
	a.Bytes[0] = 9
	if string(b.Bytes) != "ab" {
		t.Error(b)
	}
}

// P6.1, P6.2: long texts have no limit of their own.
func TestLong(t *testing.T) {
	long := strings.Repeat("é", api.MaxInput/2+1)
	x, e := text.FromUtf8(head.Utf8, long)
	if e != api.OK || string(x.Bytes) != long || !text.Right(x) {
		t.Error(len(x.Bytes), e)
	}
	if s, e := text.Utf8(x); e != api.OK || s != long {
		t.Error(len(s), e)
	}
	x, e = text.FromUtf8(head.Bmp, long)
	if e != api.OK || len(x.Bytes) != api.MaxInput+2 {
		t.Error(len(x.Bytes), e)
	}
	if x, e := text.FromUtf8(head.Bmp, long+"\xff"); e != api.ErrForm || !none(x) {
		t.Error(len(x.Bytes), e)
	}
}
