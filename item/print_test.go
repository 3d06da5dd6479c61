package item_test

import (
	"bytes"
	"math/rand"
	"slices"
	"testing"

	"quittance/api"
	"quittance/head"
	"quittance/item"
	"quittance/octet"
)

// element returns the element of a tree whose tags are valid, in the chapter's words.
func element(t item.Item) []byte {
	var contents []byte
	if t.Tag.Made {
		for _, k := range t.Kids {
			contents = append(contents, element(k)...)
		}
	} else {
		contents = t.Bytes
	}
	tag, _ := head.Bytes(t.Tag)
	length, _ := head.Length(len(contents))
	return slices.Concat(tag, length, contents)
}

// valid reports whether t is, in the chapter's words, for trees that are not long.
func valid(t item.Item) bool {
	ok := depth(t) <= 32 && size(t) <= 10000
	for _, x := range listed(t, 1) {
		x := x.tree
		ok = ok && x.Tag.Class >= 0 && x.Tag.Class <= 3 && x.Tag.Number >= 0 && x.Tag.Number < 1<<21
		ok = ok && (x.Tag.Made || len(x.Kids) == 0) && (!x.Tag.Made || len(x.Bytes) == 0)
	}
	return ok
}

// prints checks that t is valid and has that element, which is parsed to t.
func prints(t *testing.T, x item.Item, want []byte) {
	t.Helper()
	if !item.Right(x) {
		t.Error(x.Tag, len(x.Bytes), len(x.Kids), "is not right")
	}
	if b, e := item.Print(x); e != api.OK || !bytes.Equal(b, want) {
		t.Error(x.Tag, len(x.Bytes), len(x.Kids), len(b), e)
	}
	if y, e := item.Parse(want); e != api.OK || !equal(y, x) {
		t.Error(x.Tag, len(x.Bytes), len(x.Kids), e)
	}
}

// refused checks that t is not valid.
func refused(t *testing.T, x item.Item) {
	t.Helper()
	if item.Right(x) {
		t.Error(x.Tag, len(x.Bytes), len(x.Kids), "is right")
	}
	if b, e := item.Print(x); len(b) > 0 || e != api.ErrArg {
		t.Error(x.Tag, len(x.Bytes), len(x.Kids), len(b), e)
	}
}

// P7.2
func TestPrint(t *testing.T) {
	for _, x := range []struct {
		tree item.Item
		want string
	}{
		{item.Item{}, "0000"},
		{item.Item{Bytes: []byte{}, Kids: []item.Item{}}, "0000"},
		{leaf(5), "0500"}, {leaf(2, 5), "020105"}, {seq(), "3000"},
		{item.Item{Tag: head.Of(16), Bytes: []byte{}, Kids: []item.Item{}}, "3000"},
		{seq(leaf(2, 5)), "3003020105"}, {seq(leaf(5), seq(leaf(1, 255), seq()), leaf(4)), "300b0500" + "30050101ff3000" + "0400"},
		{item.Item{Tag: head.Tag{Number: 16}, Bytes: []byte{5, 0}}, "10020500"},
		{item.Item{Tag: head.Tag{Number: 2, Made: true}, Kids: []item.Item{leaf(5)}}, "22020500"},
		{item.Item{Tag: head.At(0, true), Kids: []item.Item{leaf(5)}}, "a0020500"},
		{item.Item{Tag: head.Tag{Class: 3, Number: 1<<21 - 1, Made: true}, Kids: []item.Item{{Tag: head.Tag{Class: 1, Number: 31}, Bytes: []byte{1}}}}, "ffffff7f04" + "5f1f0101"},
	} {
		prints(t, x.tree, raw(t, x.want))
	}
	prints(t, leaf(4, make([]byte, 127)...), append([]byte{4, 127}, make([]byte, 127)...))
	prints(t, leaf(4, make([]byte, 128)...), append([]byte{4, 0x81, 128}, make([]byte, 128)...))
	prints(t, seq(leaf(4, make([]byte, 126)...)), append([]byte{0x30, 0x81, 128, 4, 126}, make([]byte, 126)...))
	prints(t, seq(leaf(4, make([]byte, 65536)...)), append([]byte{0x30, 0x83, 1, 0, 5, 4, 0x83, 1, 0, 0}, make([]byte, 65536)...))
}

// P7.2: tags that are not valid, kids of one that is not Made, bytes of one that is.
func TestPrintNotValid(t *testing.T) {
	for _, x := range odd() {
		refused(t, x)
	}
	for _, tag := range []head.Tag{{Class: 3, Number: 1<<21 - 1}, {Class: 3, Number: 1<<21 - 1, Made: true}, {}, {Made: true}} {
		prints(t, seq(item.Item{Tag: tag}), element(seq(item.Item{Tag: tag})))
	}
	last := wide(10000)
	last.Kids[9998] = item.Item{Tag: head.Of(5), Kids: []item.Item{}}
	prints(t, last, element(last))
	last.Kids[9998] = item.Item{Tag: head.Tag{Class: 4}}
	refused(t, last)
	last.Kids[9998] = item.Item{Tag: head.Of(16), Bytes: []byte{0}}
	refused(t, last)
}

// P7.2
func TestPrintDeep(t *testing.T) {
	for _, n := range []int{1, 2, 31, 32} {
		prints(t, chain(n), around([]byte{5, 0}, n-1))
		if n > 1 {
			prints(t, seq(leaf(5), chain(n-1), leaf(5)), element(seq(leaf(5), chain(n-1), leaf(5))))
		}
	}
	for _, n := range []int{33, 34, 1000, 1 << 16} {
		refused(t, chain(n))
		refused(t, seq(leaf(5), chain(n-1), leaf(5)))
		refused(t, seq(chain(n-1), seq(leaf(5))))
	}
	refused(t, seq(chain(31), seq(chain(31))))
}

// P7.2
func TestPrintMany(t *testing.T) {
	for _, n := range []int{2, 9999, 10000} {
		prints(t, wide(n), wrap(head.Of(16), copies([]byte{5, 0}, n-1)))
	}
	prints(t, seq(wide(5000), wide(4999)), element(seq(wide(5000), wide(4999))))
	for _, n := range []int{10001, 10002, 100000} {
		refused(t, wide(n))
		refused(t, seq(wide(n-1)))
	}
	refused(t, seq(wide(5000), wide(5000)))
	refused(t, seq(wide(5000), wide(4999), leaf(5)))
}

// P7.2: elements of MaxInput bytes and of one more.
func TestPrintLong(t *testing.T) {
	most := leaf(4, make([]byte, 1<<24-5)...)
	prints(t, most, wrap(head.Of(4), most.Bytes))
	far := item.Item{Tag: head.Tag{Class: 2, Number: 1<<21 - 1}, Bytes: most.Bytes[:1<<24-8]}
	prints(t, far, wrap(far.Tag, far.Bytes))
	for _, n := range []int{1<<24 - 4, 1<<24 - 3, 1 << 24, 1<<24 + 1, 1 << 25} {
		refused(t, leaf(4, make([]byte, n)...))
		refused(t, seq(leaf(4, make([]byte, n)...)))
	}
	far.Bytes = most.Bytes[:1<<24-7]
	refused(t, far)
	refused(t, seq(most))
	in := seq(leaf(4, most.Bytes[:1<<24-10]...))
	prints(t, in, element(in))
	in.Kids[0].Bytes = most.Bytes[:1<<24-9]
	refused(t, in)
	half := leaf(4, most.Bytes[:1<<23-5]...)
	less := leaf(4, most.Bytes[:1<<23-10]...)
	prints(t, seq(half, less), element(seq(half, less)))
	refused(t, seq(half, leaf(4, most.Bytes[:1<<23-9]...)))
	refused(t, seq(half, half))
	refused(t, seq(half, less, leaf(5)))
	refused(t, seq(slices.Repeat([]item.Item{most}, 9999)...)) // a sum of more than 2^37
	refused(t, seq(slices.Repeat([]item.Item{half}, 512)...))  // a sum of 2^32
	refused(t, seq(slices.Repeat([]item.Item{seq(half, less)}, 256)...))
}

// P7.2, P7.5: random trees, valid or not, against the chapter's words.
func TestPrintRandom(t *testing.T) {
	r := rand.New(rand.NewSource(78))
	right, wrong := 0, 0
	for range 5000 {
		x := grown(r, 1+r.Intn(6), r.Intn(2) == 0)
		if valid(x) {
			right++
			prints(t, x, element(x))
		} else {
			wrong++
			refused(t, x)
		}
	}
	if right < 200 || wrong < 200 {
		t.Error("too few of one kind", right, wrong)
	}
}

// P7.2: trees in which each tree has the same kids again end as soon as they are too deep or too many.
func TestPrintOfWhatSharesItsKids(t *testing.T) {
	ring := make([]item.Item, 2)
	for i := range ring {
		ring[i] = item.Item{Tag: head.Of(16), Kids: ring}
	}
	refused(t, ring[0])
	twice := leaf(5)
	for range 31 {
		twice = seq(twice, twice)
	}
	refused(t, twice)
}

// P7.5
func TestMemoryOfPrint(t *testing.T) {
	root, kept := roomy()
	a, _ := item.Print(root)
	b, _ := item.Print(root)
	want := "300b02020102" + "30050500040109"
	for i := range a {
		a[i] ^= 0xff
	}
	if !kept() || octet.Hex(b) != want {
		t.Error("a result is shared")
	}
	spoil(root)
	if octet.Hex(b) != want {
		t.Error("the argument is retained")
	}
	alone := []byte{1, 2, 3}
	c, _ := item.Print(item.Item{Tag: head.Of(4), Bytes: alone[:2]})
	c[3] = 9
	if octet.Hex(alone) != "010203" || octet.Hex(c) != "04020109" {
		t.Error(alone, c)
	}
}
