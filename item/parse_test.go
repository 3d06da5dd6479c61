package item_test

import (
	"bytes"
	"encoding/asn1"
	"math/rand"
	"slices"
	"testing"

	"quittance/api"
	"quittance/head"
	"quittance/item"
	"quittance/octet"
)

// wrap returns the element with that tag and those contents.
func wrap(t head.Tag, l ...[]byte) []byte {
	b, e := head.Wrap(t, l...)
	if e != api.OK {
		panic(e)
	}
	return b
}

// around returns b within that many Sequences.
func around(b []byte, levels int) []byte {
	for range levels {
		b = wrap(head.Of(head.Sequence), b)
	}
	return b
}

// copies returns b that many times.
func copies(b []byte, n int) []byte { return bytes.Repeat(b, n) }

// fails checks that both functions return that error and nothing else.
func fails(t *testing.T, b []byte, want api.Errno) {
	t.Helper()
	if x, e := item.Parse(b); !none(x) || e != want {
		t.Error(octet.Hex(b[:min(len(b), 60)]), len(b), x.Tag, e, "not", want)
	}
	if l, e := item.Spans(b); len(l) > 0 || e != want {
		t.Error(octet.Hex(b[:min(len(b), 60)]), len(b), len(l), e, "not", want)
	}
}

// gives checks that Parse returns that tree, and Print these bytes again.
func gives(t *testing.T, b []byte, want item.Item) {
	t.Helper()
	if x, e := item.Parse(b); e != api.OK || !equal(x, want) {
		t.Error(octet.Hex(b[:min(len(b), 60)]), len(b), x.Tag, e)
	}
	if p, e := item.Print(want); e != api.OK || !bytes.Equal(p, b) {
		t.Error(octet.Hex(b[:min(len(b), 60)]), len(b), octet.Hex(p[:min(len(p), 60)]), e)
	}
}

// oracle is P7.1 and P7.4, in their own words.
type oracle struct{ spans [][2]int }

// next returns the tree at the beginning of contents, which begin at from in the input, and its length.
func (o *oracle) next(contents []byte, from, depth int) (item.Item, int, api.Errno) {
	c := octet.New(contents)
	tag, n, e := head.Read(c)
	if e != api.OK {
		return item.Item{}, 0, e
	}
	if c.Left() < n {
		return item.Item{}, 0, api.ErrEnd
	}
	if depth > 32 {
		return item.Item{}, 0, api.ErrDeep
	}
	if len(o.spans)+1 > 10000 {
		return item.Item{}, 0, api.ErrLong
	}
	begin, end := c.At(), c.At()+n
	o.spans = append(o.spans, [2]int{from, from + end})
	if !tag.Made {
		return item.Item{Tag: tag, Bytes: contents[begin:end]}, end, api.OK
	}
	t := item.Item{Tag: tag}
	for begin < end {
		kid, k, e := o.next(contents[begin:end], from+begin, depth+1)
		if e != api.OK {
			return item.Item{}, 0, e
		}
		t.Kids = append(t.Kids, kid)
		begin += k
	}
	return t, end, api.OK
}

func expected(b []byte) (item.Item, [][2]int, api.Errno) {
	if len(b) > 1<<24 {
		return item.Item{}, nil, api.ErrLong
	}
	var o oracle
	t, n, e := o.next(b, 0, 1)
	if e == api.OK && n < len(b) {
		e = api.ErrMore
	}
	if e != api.OK {
		return item.Item{}, nil, e
	}
	return t, o.spans, api.OK
}

// check holds Parse and Spans against the promises' words, and reports whether b is a tree.
func check(t *testing.T, b []byte) bool {
	t.Helper()
	want, spans, we := expected(b)
	x, e := item.Parse(b)
	if e != we || !equal(x, want) {
		t.Fatal(octet.Hex(b[:min(len(b), 60)]), x.Tag, e, "not", we)
	}
	l, e := item.Spans(b)
	if e != we || !slices.Equal(l, spans) {
		t.Fatal(octet.Hex(b[:min(len(b), 60)]), l, e, "not", we)
	}
	if e != api.OK {
		return false
	}
	if p, e := item.Print(x); e != api.OK || !bytes.Equal(p, b) { // P7.5
		t.Fatal(octet.Hex(b[:min(len(b), 60)]), octet.Hex(p[:min(len(p), 60)]), e)
	}
	return true
}

// P7.1
func TestParse(t *testing.T) {
	tag := func(class, number int, made bool) head.Tag {
		return head.Tag{Class: class, Number: number, Made: made}
	}
	for _, x := range []struct {
		in   string
		want item.Item
	}{
		{"0500", leaf(5)},
		{"0000", item.Item{}},
		{"02020102", leaf(2, 1, 2)},
		{"3000", seq()},
		{"30020500", seq(leaf(5))},
		{"3003020105", seq(leaf(2, 5))},
		{"300405000500", seq(leaf(5), leaf(5))},
		{"30053003020105", seq(seq(leaf(2, 5)))},
		{"3006300030000500", seq(seq(), seq(), leaf(5))},
		{"10020500", item.Item{Tag: tag(0, 16, false), Bytes: []byte{5, 0}}}, // no kids if it is not Made, whatever the number
		{"25020500", item.Item{Tag: tag(0, 5, true), Kids: []item.Item{leaf(5)}}},
		{"2500", item.Item{Tag: tag(0, 5, true)}},
		{"a00304010a", item.Item{Tag: head.At(0, true), Kids: []item.Item{leaf(4, 10)}}},
		{"800304010a", item.Item{Tag: head.At(0, false), Bytes: []byte{4, 1, 10}}},
		{"6102c100", item.Item{Tag: tag(1, 1, true), Kids: []item.Item{{Tag: tag(3, 1, false)}}}},
		{"1f814901ff", item.Item{Tag: tag(0, 201, false), Bytes: []byte{255}}},
		{"ffffff7f05" + "bf1f020000", item.Item{Tag: tag(3, 1<<21-1, true), Kids: []item.Item{{Tag: head.At(31, true), Kids: []item.Item{{}}}}}},
	} {
		b := raw(t, x.in)
		gives(t, b, x.want)
		check(t, b)
	}
	gives(t, wrap(head.Of(4), make([]byte, 128)), leaf(4, make([]byte, 128)...))
	gives(t, wrap(head.Of(4), make([]byte, 70000)), leaf(4, make([]byte, 70000)...))
	gives(t, wrap(head.Of(16), copies([]byte{5, 0}, 64)), wide(65))
}

// readErrors are headers that Read refuses, and its error; what follows them is of no use.
var readErrors = []struct {
	in   string
	want api.Errno
}{
	{"1f", api.ErrEnd}, {"05", api.ErrEnd}, {"30", api.ErrEnd}, {"1f81", api.ErrEnd}, {"1f8181", api.ErrEnd}, {"1f818181", api.ErrEnd}, {"1f1f", api.ErrEnd}, {"1fffff7f", api.ErrEnd},
	{"0581", api.ErrEnd}, {"0582", api.ErrEnd}, {"058201", api.ErrEnd}, {"0583ffff", api.ErrEnd}, {"0584", api.ErrEnd}, {"0584000001", api.ErrEnd},
	{"1f1e00", api.ErrTag}, {"1f00", api.ErrTag}, {"1f80", api.ErrTag}, {"1f801f00", api.ErrTag}, {"1f81818100", api.ErrTag}, {"1f81818181", api.ErrTag}, {"bf1e00", api.ErrTag}, {"ffffffff7f00", api.ErrTag},
	{"0580", api.ErrLen}, {"05ff", api.ErrLen}, {"0585", api.ErrLen}, {"05850000000000", api.ErrLen}, {"05fe", api.ErrLen}, {"058100", api.ErrLen}, {"05817f", api.ErrLen}, {"05820080", api.ErrLen}, {"0583000100", api.ErrLen}, {"058400010000", api.ErrLen},
	{"058401000001", api.ErrLong}, {"0584ffffffff", api.ErrLong}, {"308401000001", api.ErrLong}, {"1fffff7f8401000001", api.ErrLong}, {"1fffff7f84ffffffff", api.ErrLong},
}

// P7.1: each error of Read, outermost and within.
func TestParseReadErrors(t *testing.T) {
	fails(t, nil, api.ErrEnd)
	fails(t, []byte{}, api.ErrEnd)
	for _, x := range readErrors {
		b := raw(t, x.in)
		fails(t, b, x.want)
		if x.want != api.ErrEnd {
			fails(t, append(slices.Clone(b), 0, 0, 0, 0, 0, 0, 0, 0, 0, 0, 0, 0), x.want)
		}
		for levels := 1; levels < 4; levels++ {
			fails(t, around(b, levels), x.want)
			fails(t, around(append([]byte{5, 0, 2, 1, 7}, b...), levels), x.want)
			fails(t, append(around(b, levels), 1, 1, 1, 1, 1, 1, 1, 1, 1, 1), x.want) // what follows the contents does not count
			fails(t, around(append(around(b, levels), 5, 0, 5, 0, 5, 0, 5, 0, 5, 0), 1), x.want)
		}
	}
}

// P7.1: contents that end too early, or go beyond what contains them.
func TestParseEnds(t *testing.T) {
	for _, s := range []string{
		"0501", "020201", "058180", "0581ff00", "05840100000000", "3001", "3002", "300205", "3005020105", "3084010000000500", // the outermost one
		"300130", "3003050005", "300305001f", "300402010502", "30020581", "3003058201", // within a header
		"30020501", "30020201", "3003020201", "30033001", "3003300205", "30050500020201", "3006020105020201", "3003058180", // within what a kid has
		"3004050030020500", "300230020500", "300530040202050500", "300302020102", "30043003020105", // a kid's bytes that are there, but behind what contains it
	} {
		b := raw(t, s)
		fails(t, b, api.ErrEnd)
		fails(t, around(b, 1), api.ErrEnd)
		fails(t, around(append([]byte{5, 0}, b...), 2), api.ErrEnd)
	}
	whole := raw(t, "300a020105a0050401ff0500")
	for n := range whole {
		fails(t, whole[:n], api.ErrEnd)
	}
	for _, levels := range []int{1, 2, 5} { // cut from within, with what follows still there
		for n := 1; n < len(whole); n++ {
			fails(t, append(around(whole[:n], levels), whole...), api.ErrEnd)
		}
	}
}

// P7.1: bytes behind the outermost one come last.
func TestParseMore(t *testing.T) {
	for _, s := range []string{"0500", "3000", "3003020105", "300a020105a0050401ff0500", "bf1f00", "04820100" + octet.Hex(make([]byte, 256))} {
		b := raw(t, s)
		for _, more := range [][]byte{{0}, {5, 0}, {0x30}, {0x1f, 0x1e}, b, make([]byte, 5000)} {
			fails(t, octet.Join(b, more), api.ErrMore)
		}
	}
	fails(t, raw(t, "300105"+"00"), api.ErrEnd)
	fails(t, raw(t, "30021f1e"+"00"), api.ErrTag)
	fails(t, raw(t, "30020580"+"00"), api.ErrLen)
}

// P7.1
func TestParseDeep(t *testing.T) {
	for depth := 1; depth <= 32; depth++ {
		gives(t, around([]byte{5, 0}, depth-1), chain(depth))
		b := around([]byte{0x30, 0}, depth-1)
		if x, e := item.Parse(b); e != api.OK || item.Depth(x) != depth || item.Size(x) != depth {
			t.Error(depth, e)
		}
		check(t, b)
	}
	for _, depth := range []int{33, 34, 100, 5000} {
		fails(t, around([]byte{5, 0}, depth-1), api.ErrDeep)
		fails(t, around([]byte{0x30, 0}, depth-1), api.ErrDeep)
		fails(t, append(around([]byte{5, 0}, depth-1), 0), api.ErrDeep)
	}
	wide32 := around(copies([]byte{5, 0}, 50), 31)
	if x, e := item.Parse(wide32); e != api.OK || item.Depth(x) != 32 || item.Size(x) != 81 {
		t.Error(e)
	}
}

// P7.1
func TestParseMany(t *testing.T) {
	null := []byte{5, 0}
	for _, size := range []int{2, 9999, 10000} {
		gives(t, wrap(head.Of(16), copies(null, size-1)), wide(size))
		check(t, wrap(head.Of(16), copies(null, size-1)))
	}
	for _, size := range []int{10001, 10002, 200000} {
		fails(t, wrap(head.Of(16), copies(null, size-1)), api.ErrLong)
	}
	pair := wrap(head.Of(16), null) // two trees
	for n, want := range map[int]api.Errno{4999: api.OK, 5000: api.ErrLong} {
		if x, e := item.Parse(wrap(head.Of(16), copies(pair, n))); e != want || e == api.OK && item.Size(x) != 9999 {
			t.Error(n, e)
		}
	}
	if x, e := item.Parse(wrap(head.Of(16), copies(pair, 4999), null)); e != api.OK || item.Size(x) != 10000 {
		t.Error(e)
	}
	fails(t, wrap(head.Of(16), copies(pair, 4999), pair), api.ErrLong) // the kid of the last one is too many
	fails(t, wrap(head.Of(16), copies(pair, 4999), null, null), api.ErrLong)
	deep := around(copies(null, 10000-31), 31)
	if x, e := item.Parse(deep); e != api.OK || item.Size(x) != 10000 || item.Depth(x) != 32 {
		t.Error(e)
	}
	fails(t, around(copies(null, 10001-31), 31), api.ErrLong)
}

// P7.1: the order of the errors of one tree, and that of the trees.
func TestParseFirstError(t *testing.T) {
	null := []byte{5, 0}
	full := copies(null, 9999) // with the outermost one all trees that may be
	for _, x := range readErrors {
		b := raw(t, x.in)
		fails(t, around(b, 32), x.want)                         // ahead of ErrDeep
		fails(t, append(around(b, 32), 0), x.want)              // and of ErrMore
		fails(t, wrap(head.Of(16), full, b), x.want)            // ahead of ErrLong
		fails(t, wrap(head.Of(16), full, null, b), api.ErrLong) // but not if it begins later
		fails(t, wrap(head.Of(16), around(null, 32), b), api.ErrDeep)
		if x.want != api.ErrEnd {
			fails(t, wrap(head.Of(16), b, around(null, 32)), x.want)
		}
	}
	short := []byte{5, 1}
	fails(t, around(short, 32), api.ErrEnd)
	fails(t, wrap(head.Of(16), full, short), api.ErrEnd)
	fails(t, wrap(head.Of(16), full, null, short), api.ErrLong)
	fails(t, wrap(head.Of(16), around(null, 32), short), api.ErrDeep)
	fails(t, wrap(head.Of(16), around(short, 1), around(null, 32)), api.ErrEnd)
	deep := around(null, 31)
	fails(t, wrap(head.Of(16), full[:2*(9999-31)], deep), api.ErrDeep) // the 10001st tree is also the one that is too deep
	fails(t, wrap(head.Of(16), full[:2*(9999-30)], deep), api.ErrLong) // one more, and the one around it is too many already
	fails(t, wrap(head.Of(16), full[:2*(9999-33)], deep), api.ErrDeep)
	fails(t, wrap(head.Of(16), deep, full), api.ErrDeep)
	fails(t, append(wrap(head.Of(16), full, null), 0), api.ErrLong)
	fails(t, append(around(null, 32), 0), api.ErrDeep)
	fails(t, append([]byte{0x30, 2, 5, 1}, 0), api.ErrEnd)
	fails(t, raw(t, "3006"+"0580"+"1f1e"+"0501"), api.ErrLen)
	fails(t, raw(t, "3006"+"1f1e"+"0580"+"0501"), api.ErrTag)
	fails(t, raw(t, "3006"+"3002"+"0580"+"1f1e"), api.ErrLen) // within the first kid ahead of the second one
	fails(t, raw(t, "3006"+"3005"+"0580"+"1f1e"), api.ErrEnd) // the first kid itself ahead of what is in it
	fails(t, raw(t, "3007"+"0580"+"1f1e"+"0501"), api.ErrEnd)
}

// P7.1: input of MaxInput bytes and of one more.
func TestParseLong(t *testing.T) {
	b := append([]byte{4, 0x84, 0, 0xff, 0xff, 0xfa}, make([]byte, 1<<24-6)...)
	fails(t, b, api.ErrLen)
	b = append([]byte{4, 0x83, 0xff, 0xff, 0xfb}, make([]byte, 1<<24-5)...) // 2^24 bytes
	x, e := item.Parse(b)
	if e != api.OK || x.Tag != head.Of(4) || !bytes.Equal(x.Bytes, make([]byte, 1<<24-5)) {
		t.Error(e, len(x.Bytes))
	}
	if l, e := item.Spans(b); e != api.OK || !slices.Equal(l, [][2]int{{0, 1 << 24}}) {
		t.Error(l, e)
	}
	if p, e := item.Print(x); e != api.OK || !bytes.Equal(p, b) {
		t.Error(e, len(p))
	}
	fails(t, b[:1<<24-1], api.ErrEnd)
	fails(t, append(b, 0), api.ErrLong)                                               // one more, ahead of ErrMore
	fails(t, append([]byte{4, 0x83, 0xff, 0xff, 0xfc}, b[5:]...)[:1<<24], api.ErrEnd) // the length of one more
	fails(t, append(raw(t, "058401000001"), make([]byte, 1<<24-6)...), api.ErrLong)
	fails(t, append(raw(t, "05840100000000"), make([]byte, 1<<24-7)...), api.ErrEnd)
	for _, start := range [][]byte{{0x1f, 0x1e}, {5, 0x80}, {5, 0}, {5, 1}, nil} {
		fails(t, append(slices.Clone(start), make([]byte, 1<<24+1-len(start))...), api.ErrLong)
	}
	fails(t, make([]byte, 1<<24), api.ErrMore)
	fails(t, make([]byte, 1<<25), api.ErrLong)
	nest := b[:1<<24-5*31]
	nest = append([]byte{4, 0x83, 0xff, 0xff, 0xfb - 5*31}, nest[5:]...)
	nest = around(nest, 31) // 2^24 bytes again, of depth 32
	if x, e := item.Parse(nest); len(nest) != 1<<24 || e != api.OK || item.Depth(x) != 32 {
		t.Error(len(nest), e)
	}
	fails(t, append(nest, 0), api.ErrLong)
}

// everyString calls f with all byte strings of n bytes from that alphabet.
func everyString(alphabet []byte, n int, f func([]byte)) {
	b, at := make([]byte, n), make([]int, n)
	for {
		for i, k := range at {
			b[i] = alphabet[k]
		}
		f(b)
		i := n - 1
		for i >= 0 && at[i] == len(alphabet)-1 {
			at[i] = 0
			i--
		}
		if i < 0 {
			return
		}
		at[i]++
	}
}

// P7.1, P7.4, P7.5: all short byte strings.
func TestParseAllShort(t *testing.T) {
	trees := 0
	count := func(b []byte) {
		if check(t, b) {
			trees++
		}
	}
	var all []byte
	for i := range 256 {
		all = append(all, byte(i))
	}
	for n := range 3 {
		everyString(all, n, count)
	}
	for n := 3; n <= 5; n++ {
		everyString([]byte{0, 1, 2, 3, 5, 0x1f, 0x30, 0x80, 0x81, 0xbf, 0xff}, n, count)
	}
	for n := 6; n <= 9; n++ {
		everyString([]byte{0, 2, 4, 0x30}, n, count)
	}
	if trees < 1000 {
		t.Error("few trees", trees)
	}
}

// P7.1, P7.4, P7.5: printed random trees, and these with bytes that are changed, left out or put in.
func TestParseRandom(t *testing.T) {
	r := rand.New(rand.NewSource(75))
	trees, others := 0, 0
	for range 2000 {
		x := grown(r, 1+r.Intn(6), true)
		b, e := item.Print(x)
		if e != api.OK {
			t.Fatal(x, e)
		}
		gives(t, b, x)
		for range 30 {
			c := slices.Clone(b)
			at := r.Intn(len(c))
			switch r.Intn(4) {
			case 0:
				c[at] = byte(r.Intn(256))
			case 1:
				c[at] += byte(r.Intn(5) - 2)
			case 2:
				c = slices.Delete(c, at, at+1)
			case 3:
				c = slices.Insert(c, at, byte(r.Intn(256)))
			}
			if check(t, c) {
				trees++
			} else {
				others++
			}
		}
	}
	if trees < 1000 || others < 1000 {
		t.Error("too few of one kind", trees, others)
	}
}

// P7.1: the library reads the same headers and contents.
func TestParseAsTheLibrary(t *testing.T) {
	r := rand.New(rand.NewSource(76))
	for range 500 {
		b, e := item.Print(grown(r, 5, true))
		if e != api.OK {
			t.Fatal(e)
		}
		x, e := item.Parse(b)
		if e != api.OK {
			t.Fatal(e)
		}
		like(t, x, b)
	}
}

// like checks that the library reads x from b, with nothing behind it.
func like(t *testing.T, x item.Item, b []byte) {
	var v asn1.RawValue
	rest, err := asn1.Unmarshal(b, &v)
	if err != nil || len(rest) > 0 || v.Class != x.Tag.Class || v.Tag != x.Tag.Number || v.IsCompound != x.Tag.Made {
		t.Fatal(err, v, x.Tag)
	}
	if !v.IsCompound && !bytes.Equal(v.Bytes, x.Bytes) {
		t.Fatal(v, x)
	}
	in := v.Bytes
	for _, k := range x.Kids {
		var w asn1.RawValue
		rest, err := asn1.Unmarshal(in, &w)
		if err != nil {
			t.Fatal(err)
		}
		like(t, k, w.FullBytes)
		in = rest
	}
	if v.IsCompound && len(in) > 0 {
		t.Fatal("bytes are left", in)
	}
}

// P7.4: a span holds the element of its tree, in the order of Each.
func TestSpans(t *testing.T) {
	b := raw(t, "300a020105a0050401ff0500")
	want := [][2]int{{0, 12}, {2, 5}, {5, 12}, {7, 10}, {10, 12}}
	if l, e := item.Spans(b); e != api.OK || !slices.Equal(l, want) {
		t.Error(l, e)
	}
	if l, e := item.Spans([]byte{5, 0}); e != api.OK || !slices.Equal(l, [][2]int{{0, 2}}) {
		t.Error(l, e)
	}
	if l, e := item.Spans([]byte{0x30, 0}); e != api.OK || !slices.Equal(l, [][2]int{{0, 2}}) {
		t.Error(l, e)
	}
	r := rand.New(rand.NewSource(77))
	for range 500 {
		root := grown(r, 6, true)
		b, _ := item.Print(root)
		l, e := item.Spans(b)
		if e != api.OK || len(l) != size(root) {
			t.Fatal(root, l, e)
		}
		n := 0
		for _, x := range item.Each(root) {
			if p, e := item.Print(x); e != api.OK || !bytes.Equal(p, b[l[n][0]:l[n][1]]) {
				t.Error(root, n, l[n])
			}
			n++
		}
	}
}

// P7.5: the bytes are not changed, and neither they nor another result is shared.
func TestMemoryOfParse(t *testing.T) {
	for _, s := range []string{"300a020105a0050401ff0500", "0403010203", "3000", "300404000400"} {
		room := append(raw(t, s), 0xaa, 0xbb)
		b := room[:len(room)-2]
		x, _ := item.Parse(b)
		y, _ := item.Parse(b)
		l, _ := item.Spans(b)
		m, _ := item.Spans(b)
		want, spans, _ := expected(raw(t, s))
		spoil(x)
		for i := range l {
			l[i] = [2]int{-1, -1}
		}
		if octet.Hex(room) != s+"aabb" || !equal(y, want) || !slices.Equal(m, spans) {
			t.Error(s, "a result is shared")
		}
		for i := range room {
			room[i] = 0x5a
		}
		if !equal(y, want) || !slices.Equal(m, spans) {
			t.Error(s, "the bytes are retained")
		}
	}
}

// P7.5: the trees of one result share nothing: to write behind the end of one list is not seen in another.
func TestMemoryOfOneTree(t *testing.T) {
	b := raw(t, "300e0401aa300604010104010204"+"01bb")
	x, e := item.Parse(b)
	if e != api.OK {
		t.Fatal(e)
	}
	for i := range x.Kids {
		y := copied(x)
		z, _ := item.Parse(b)
		k := z.Kids[i]
		spoil(k)
		for j := range z.Kids {
			if j != i && !equal(z.Kids[j], y.Kids[j]) {
				t.Error(i, j, "are shared")
			}
		}
	}
}
