package build_test

import (
	"bytes"
	"encoding/asn1"
	"math"
	"math/rand"
	"slices"
	"testing"

	"quittance/api"
	"quittance/build"
	"quittance/head"
	"quittance/octet"
)

// topNumber is the greatest number of a valid tag.
const topNumber = 1<<21 - 1

// wrongNumbers are those of no tag; some would be right if they were cut to 8, 16 or 32 bits.
var wrongNumbers = []int{math.MinInt, math.MinInt + 1, -1 << 32, -1<<32 + 1, -1 << 31, -65536, -256, -2, -1, topNumber + 1, topNumber + 2, 1 << 31, 1 << 32, 1<<32 + 1, math.MaxInt - 1, math.MaxInt}

// rightNumbers are those of valid tags, on both sides of each length of their encodings.
var rightNumbers = []int{0, 1, 2, 16, 17, 30, 31, 32, 127, 128, 201, 1<<14 - 1, 1 << 14, topNumber - 1, topNumber}

// raw returns the bytes of a hex text.
func raw(t *testing.T, hex string) []byte {
	t.Helper()
	b, e := octet.Unhex(hex)
	if e != api.OK {
		t.Fatal(hex, e)
	}
	return b
}

// raws returns the bytes of each hex text.
func raws(t *testing.T, l ...string) [][]byte {
	t.Helper()
	var out [][]byte
	for _, x := range l {
		out = append(out, raw(t, x))
	}
	return out
}

// element returns an element, in the words of chapter 2.
func element(class, number int, made bool, contents []byte) []byte {
	first := byte(64 * class)
	if made {
		first += 32
	}
	out := []byte{first + byte(number)}
	if number > 30 {
		out = []byte{first + 31}
		for shift := 14; shift > 0; shift -= 7 {
			if number>>shift > 0 {
				out = append(out, byte(number>>shift)|128)
			}
		}
		out = append(out, byte(number)&127)
	}
	switch n := len(contents); {
	case n < 1<<7:
		out = append(out, byte(n))
	case n < 1<<8:
		out = append(out, 0x81, byte(n))
	case n < 1<<16:
		out = append(out, 0x82, byte(n>>8), byte(n))
	case n < 1<<24:
		out = append(out, 0x83, byte(n>>16), byte(n>>8), byte(n))
	default:
		out = append(out, 0x84, byte(n>>24), byte(n>>16), byte(n>>8), byte(n))
	}
	return append(out, contents...)
}

// ascending returns the list in the order of its bytes, sorted in the plainest way.
func ascending(l [][]byte) [][]byte {
	out := slices.Clone(l)
	for i := range out {
		for j := i; j > 0 && string(out[j]) < string(out[j-1]); j-- {
			out[j], out[j-1] = out[j-1], out[j]
		}
	}
	return out
}

// same reports whether both lists have the same bytes.
func same(a, b [][]byte) bool { return slices.EqualFunc(a, b, bytes.Equal) }

// texts returns the hex text of each element.
func texts(l [][]byte) []string {
	var out []string
	for _, b := range l {
		out = append(out, octet.Hex(b))
	}
	return out
}

// grown returns a random element.
func grown(r *rand.Rand) []byte {
	number := r.Intn(4)
	if r.Intn(6) == 0 {
		number = rightNumbers[r.Intn(len(rightNumbers))]
	}
	contents := make([]byte, r.Intn(4))
	if r.Intn(20) == 0 {
		contents = make([]byte, 126+r.Intn(4))
	}
	for i := range contents {
		contents[i] = byte(r.Intn(3))
	}
	return element(r.Intn(4), number, r.Intn(2) == 0, contents)
}

// elements returns up to that many random elements.
func elements(r *rand.Rand, most int) [][]byte {
	var out [][]byte
	for range r.Intn(most + 1) {
		out = append(out, grown(r))
	}
	return out
}

// lists are contents of no, one and several parts, which need not be elements.
func lists(t *testing.T) [][][]byte {
	return [][][]byte{
		nil, {}, {nil}, {{}}, {nil, {}, nil},
		raws(t, "0500"), raws(t, "00"), raws(t, "ff"), raws(t, "0201"), raws(t, "0500", "0500"),
		raws(t, "020105", "0101ff"), raws(t, "0101ff", "020105"), raws(t, "0500", "", "01"), raws(t, "01", "", "0500", "", ""),
		raws(t, "02", "0201", "", "020100", "02", "01ff", "01"), raws(t, "ff", "80", "7f", "00", "81"), raws(t, "ffff", "ff", "fffe", "ff00"),
		{make([]byte, 127)}, {make([]byte, 128)}, {make([]byte, 100), make([]byte, 28)}, {make([]byte, 255)}, {{1}, make([]byte, 255)},
		{make([]byte, 65535)}, {make([]byte, 65535), {1}},
	}
}

// P8.1, P8.4: the chapter's examples.
func TestExamples(t *testing.T) {
	s := build.New()
	s.Open(head.Of(head.Sequence))
	s.Put([]byte{5, 0})
	s.Shut()
	if b, e := s.Bytes(); e != api.OK || octet.Hex(b) != "30020500" {
		t.Error(octet.Hex(b), e)
	}
	if b, e := build.SetOf([]byte{2, 1, 5}, []byte{1, 1, 255}); e != api.OK || octet.Hex(b) != "31060101ff020105" {
		t.Error(octet.Hex(b), e)
	}
	if b, e := build.Implicit(1, []byte{4, 1, 7}); e != api.OK || octet.Hex(b) != "810107" {
		t.Error(octet.Hex(b), e)
	}
}

// P8.4: no, one and several arguments.
func TestSequence(t *testing.T) {
	for _, l := range lists(t) {
		want := element(0, 16, true, bytes.Join(l, nil))
		if b, e := build.Sequence(l...); e != api.OK || !bytes.Equal(b, want) {
			t.Error(texts(l), octet.Hex(b), e)
		}
	}
}

// P8.4: the arguments are sorted as they are, elements or not.
func TestSetOf(t *testing.T) {
	all := lists(t)
	r := rand.New(rand.NewSource(81))
	for range 500 {
		all = append(all, elements(r, 12))
	}
	for _, l := range all {
		want := element(0, 17, true, bytes.Join(ascending(l), nil))
		if b, e := build.SetOf(l...); e != api.OK || !bytes.Equal(b, want) {
			t.Error(texts(l), octet.Hex(b), e)
		}
	}
}

// P8.4: every order of a few arguments gives the same set.
func TestSetOfInEveryOrder(t *testing.T) {
	l := raws(t, "0101ff", "020105", "02020005", "0500", "020105")
	want := "310f" + "0101ff" + "020105" + "020105" + "02020005" + "0500"
	var all func(k int)
	all = func(k int) {
		if k == len(l) {
			if b, e := build.SetOf(l...); e != api.OK || octet.Hex(b) != want {
				t.Error(texts(l), octet.Hex(b), e)
			}
		}
		for i := k; i < len(l); i++ {
			l[k], l[i] = l[i], l[k]
			all(k + 1)
			l[k], l[i] = l[i], l[k]
		}
	}
	all(0)
}

// P8.4: the library sorts the elements of a set too.
func TestSetOfAgainstTheLibrary(t *testing.T) {
	r := rand.New(rand.NewSource(82))
	for range 500 {
		numbers, l := make([]int, r.Intn(9)), [][]byte(nil)
		for i := range numbers {
			numbers[i] = int(r.Uint32()>>r.Intn(32)) - 1000
			b, err := asn1.Marshal(numbers[i])
			if err != nil {
				t.Fatal(err)
			}
			l = append(l, b)
		}
		set, err := asn1.MarshalWithParams(numbers, "set")
		if b, e := build.SetOf(l...); err != nil || e != api.OK || !bytes.Equal(b, set) {
			t.Error(numbers, octet.Hex(b), e, err)
		}
		seq, err := asn1.Marshal(numbers)
		if b, e := build.Sequence(l...); err != nil || e != api.OK || !bytes.Equal(b, seq) {
			t.Error(numbers, octet.Hex(b), e, err)
		}
		explicit, err := asn1.MarshalWithParams(numbers, "explicit,tag:7")
		if b, e := build.Explicit(7, seq); err != nil || e != api.OK || !bytes.Equal(b, explicit) {
			t.Error(numbers, octet.Hex(b), e, err)
		}
		implicit, err := asn1.MarshalWithParams(numbers, "tag:40")
		if b, e := build.Implicit(40, seq); err != nil || e != api.OK || !bytes.Equal(b, implicit) {
			t.Error(numbers, octet.Hex(b), e, err)
		}
	}
}

// P8.4: the tag is Made, whatever the contents are.
func TestExplicit(t *testing.T) {
	for _, l := range lists(t) {
		for _, n := range rightNumbers {
			want := element(2, n, true, bytes.Join(l, nil))
			if b, e := build.Explicit(n, l...); e != api.OK || !bytes.Equal(b, want) {
				t.Error(n, texts(l), octet.Hex(b), e)
			}
		}
		for _, n := range wrongNumbers {
			if b, e := build.Explicit(n, l...); len(b) != 0 || e != api.ErrArg {
				t.Error(n, texts(l), octet.Hex(b), e)
			}
		}
	}
}

// P8.4: all contents together count, and the tag comes first.
func TestContentsTooLong(t *testing.T) {
	half := make([]byte, 1<<23)
	for _, x := range []struct {
		l    [][]byte
		want api.Errno
	}{
		{[][]byte{half, half}, api.OK}, {[][]byte{half, nil, half}, api.OK}, {[][]byte{make([]byte, 1<<24)}, api.OK},
		{[][]byte{half, half, {1}}, api.ErrLong}, {[][]byte{{1}, half, half}, api.ErrLong}, {[][]byte{make([]byte, 1<<24+1)}, api.ErrLong},
		{slices.Repeat([][]byte{half}, 1000), api.ErrLong},
	} {
		size := 0
		if x.want == api.OK {
			size = 1<<24 + 6
		}
		if b, e := build.Sequence(x.l...); e != x.want || len(b) != size {
			t.Error("Sequence", len(x.l), len(b), e)
		}
		if b, e := build.SetOf(x.l...); e != x.want || len(b) != size {
			t.Error("SetOf", len(x.l), len(b), e)
		}
		if b, e := build.Explicit(3, x.l...); e != x.want || len(b) != size {
			t.Error("Explicit", len(x.l), len(b), e)
		}
		if b, e := build.Explicit(-1, x.l...); e != api.ErrArg || len(b) != 0 {
			t.Error("Explicit -1", len(x.l), len(b), e)
		}
	}
}

// P8.4: another tag, which is Made if the old one is, and the same contents.
func TestImplicit(t *testing.T) {
	for _, x := range []struct {
		n           int
		whole, want string
	}{
		{0, "0500", "8000"}, {0, "3000", "a000"}, {1, "040107", "810107"}, {2, "30020500", "a2020500"}, {2, "31020500", "a2020500"},
		{31, "1f814900", "9f1f00"}, {31, "3f814903010203", "bf1f03010203"}, {5, "a00105", "a50105"}, {5, "800105", "850105"}, {5, "6000", "a500"}, {5, "c000", "8500"},
		{3, "2403ffffff", "a303ffffff"}, {3, "1001ff", "8301ff"},
	} {
		if b, e := build.Implicit(x.n, raw(t, x.whole)); e != api.OK || octet.Hex(b) != x.want {
			t.Error(x.n, x.whole, octet.Hex(b), e)
		}
	}
	for _, n := range rightNumbers {
		for _, size := range []int{0, 1, 127, 128, 255, 256, 65535, 65536} {
			for class := range 4 {
				for _, made := range []bool{false, true} {
					contents := bytes.Repeat([]byte{7}, size)
					whole, want := element(class, 1+n/2, made, contents), element(2, n, made, contents)
					if b, e := build.Implicit(n, whole); e != api.OK || !bytes.Equal(b, want) {
						t.Error(n, class, made, size, len(b), e)
					}
				}
			}
		}
	}
}

// P8.4: which error comes first.
func TestImplicitErrors(t *testing.T) {
	for _, x := range []struct {
		whole string
		want  api.Errno
	}{
		{"", api.ErrEnd}, {"04", api.ErrEnd}, {"1f", api.ErrEnd}, {"1f81", api.ErrEnd}, {"0482", api.ErrEnd}, {"048201", api.ErrEnd},
		{"1f0100", api.ErrTag}, {"1f1e00", api.ErrTag}, {"1f8001", api.ErrTag}, {"1f8181818100", api.ErrTag},
		{"0480", api.ErrLen}, {"04ff", api.ErrLen}, {"0485", api.ErrLen}, {"04817f", api.ErrLen}, {"04820001", api.ErrLen},
		{"048401000001", api.ErrLong}, {"0484ffffffff", api.ErrLong},
		{"0402", api.ErrEnd}, {"040201", api.ErrEnd}, {"30050500", api.ErrEnd}, {"04840100000000", api.ErrEnd}, {"048180" + "00", api.ErrEnd},
		{"040000", api.ErrMore}, {"0401070000", api.ErrMore}, {"0500" + "0500", api.ErrMore}, {"3000ff", api.ErrMore}, {"040007", api.ErrMore},
	} {
		for _, n := range append(slices.Clone(wrongNumbers), 0, 31, topNumber) { // the number comes last
			if b, e := build.Implicit(n, raw(t, x.whole)); len(b) != 0 || e != x.want {
				t.Error(n, x.whole, octet.Hex(b), e)
			}
		}
	}
	if b, e := build.Implicit(0, nil); len(b) != 0 || e != api.ErrEnd {
		t.Error(b, e)
	}
	for _, n := range wrongNumbers {
		for _, whole := range []string{"0500", "3000", "040107"} {
			if b, e := build.Implicit(n, raw(t, whole)); len(b) != 0 || e != api.ErrArg {
				t.Error(n, whole, octet.Hex(b), e)
			}
		}
	}
}

// P8.4: the longest contents, one byte of them too few, and one too many.
func TestImplicitOfTheLongest(t *testing.T) {
	whole := element(0, 4, false, make([]byte, 1<<24))
	want := element(2, 31, false, make([]byte, 1<<24))
	if b, e := build.Implicit(31, whole); e != api.OK || !bytes.Equal(b, want) {
		t.Error(len(b), e)
	}
	if b, e := build.Implicit(31, whole[:len(whole)-1]); len(b) != 0 || e != api.ErrEnd {
		t.Error(len(b), e)
	}
	if b, e := build.Implicit(31, append(whole, 0)); len(b) != 0 || e != api.ErrMore {
		t.Error(len(b), e)
	}
	if b, e := build.Implicit(31, make([]byte, 1<<25)); len(b) != 0 || e != api.ErrMore {
		t.Error(len(b), e)
	}
}
