package head_test

import (
	"bytes"
	"math"
	"testing"

	"quittance/api"
	"quittance/head"
	"quittance/octet"
)

// P2.4
func TestWrap(t *testing.T) {
	for _, x := range []struct {
		tag  head.Tag
		l    [][]byte
		want string
	}{
		{head.Of(head.Null), nil, "0500"},
		{head.Of(head.Null), [][]byte{}, "0500"},
		{head.Of(head.Null), [][]byte{nil, {}, nil}, "0500"},
		{head.Of(head.Integer), [][]byte{{7}}, "020107"},
		{head.Of(head.Sequence), [][]byte{{5, 0}, nil, {1}}, "3003050001"},
		{head.Of(head.Sequence), [][]byte{{1}, {5, 0}}, "3003010500"},
		{head.At(0, true), [][]byte{{5, 0}}, "a0020500"},
		{head.Tag{Number: 201}, [][]byte{{9}}, "1f81490109"},
		{head.Tag{Class: 3, Number: topNumber, Made: true}, nil, "ffffff7f00"},
	} {
		if b, e := head.Wrap(x.tag, x.l...); e != api.OK || octet.Hex(b) != x.want {
			t.Error(x.want, octet.Hex(b), e)
		}
	}
}

// parts cuts n bytes into contents of that many parts.
func parts(n, count int) [][]byte {
	all := make([]byte, n)
	for i := range all {
		all[i] = byte(i*7 + i>>8)
	}
	var out [][]byte
	for i := range count {
		out = append(out, all[n*i/count:n*(i+1)/count])
	}
	return out
}

// P2.4, P2.5, P2.6: what Wrap returns is opened to the same contents.
func TestWrapThereAndBack(t *testing.T) {
	tags := []head.Tag{head.Of(head.OctetString), head.At(31, true), {Class: 3, Number: topNumber}}
	for _, n := range lengths {
		l := parts(n, 1+n%5)
		want := bytes.Join(l, nil)
		for _, tag := range tags {
			b, e := head.Wrap(tag, l...)
			if e != api.OK || len(b) != head.Size(tag, n) {
				t.Fatal(tag, n, len(b), e)
			}
			alone, e := head.Alone(b, tag)
			if e != api.OK || alone.At() != 0 || !bytes.Equal(alone.Rest(), want) {
				t.Fatal("Alone", tag, n, e)
			}
			c := octet.New(append([]byte{1, 2}, append(b, 3)...))
			c.Take(2)
			if !head.Is(c, tag) || c.At() != 2 {
				t.Error("Is", tag, n, c.At())
			}
			in, e := head.Open(c, tag)
			if e != api.OK || in.At() != 0 || in.Left() != n || !bytes.Equal(in.Rest(), want) {
				t.Fatal("Open", tag, n, e)
			}
			if c.Left() != 1 || c.At() != 2+len(b) {
				t.Error("Open", tag, n, c.At(), c.Left())
			}
		}
	}
}

// P2.4: all contents together count, and the tag comes first.
func TestWrapErrors(t *testing.T) {
	half := make([]byte, 1<<23)
	seq := head.Of(head.Sequence)
	for _, x := range wrongTags() {
		if b, e := head.Wrap(x, []byte{1}); b != nil || e != api.ErrArg {
			t.Error(x, len(b), e)
		}
		if b, e := head.Wrap(x, half, half, half); b != nil || e != api.ErrArg {
			t.Error(x, len(b), e)
		}
	}
	if b, e := head.Wrap(seq, half, half); e != api.OK || len(b) != 1<<24+6 {
		t.Error(len(b), e)
	}
	for _, l := range [][][]byte{{half, half, {1}}, {{1}, half, half}, {half, half, half, nil}, {make([]byte, 1<<24+1)}} {
		if b, e := head.Wrap(seq, l...); b != nil || e != api.ErrLong {
			t.Error(len(b), e)
		}
	}
	many := make([][]byte, 5000)
	for i := range many {
		many[i] = half
	}
	if b, e := head.Wrap(seq, many...); b != nil || e != api.ErrLong {
		t.Error(len(b), e)
	}
}

// P2.4
func TestSize(t *testing.T) {
	everyTag(func(x head.Tag) {
		for _, n := range lengths {
			tag, _ := head.Bytes(x)
			length, _ := head.Length(n)
			if k := head.Size(x, n); k != len(tag)+len(length)+n {
				t.Error(x, n, k)
			}
		}
		for _, n := range []int{math.MinInt, -1, 1<<24 + 1, 1 << 32, math.MaxInt} {
			if k := head.Size(x, n); k != 0 {
				t.Error(x, n, k)
			}
		}
	})
	for _, x := range wrongTags() {
		for _, n := range []int{-1, 0, 1, 128, 1 << 24, 1<<24 + 1} {
			if k := head.Size(x, n); k != 0 {
				t.Error(x, n, k)
			}
		}
	}
	for n, want := range map[int]int{0: 2, 127: 129, 128: 131, 255: 258, 256: 260, 65535: 65539, 65536: 65541, 1 << 24: 1<<24 + 6} {
		if k := head.Size(head.Of(head.Sequence), n); k != want {
			t.Error(n, k)
		}
	}
}

// P2.5: the error, which comes first, and the cursor stays.
func TestOpenErrors(t *testing.T) {
	seq := head.Of(head.Sequence)
	for _, x := range []struct {
		in   string
		tag  head.Tag
		want api.Errno
	}{
		{"", seq, api.ErrEnd},
		{"30", seq, api.ErrEnd},
		{"1f", head.Tag{Number: 31}, api.ErrEnd},
		{"3082", seq, api.ErrEnd},
		{"1f1e00", head.Tag{Number: 30}, api.ErrTag},
		{"3080", seq, api.ErrLen},
		{"30817f", seq, api.ErrLen},
		{"308401000001", seq, api.ErrLong},
		{"3180", seq, api.ErrLen}, {"31", seq, api.ErrEnd}, {"318401000001", seq, api.ErrLong}, // the error of Read ahead of the tag
		{"3100", seq, api.ErrTag}, {"1000", seq, api.ErrTag}, {"7000", seq, api.ErrTag}, {"b000", seq, api.ErrTag}, {"f000", seq, api.ErrTag}, {"0500", seq, api.ErrTag},
		{"3105", seq, api.ErrTag}, {"31840100000000", seq, api.ErrTag}, // the tag ahead of contents that end too early
		{"a000", head.At(0, false), api.ErrTag}, {"8000", head.At(0, true), api.ErrTag}, {"8100", head.At(0, false), api.ErrTag},
		{"3001", seq, api.ErrEnd}, {"30030102", seq, api.ErrEnd}, {"308180" + "0000", seq, api.ErrEnd}, {"30840100000000", seq, api.ErrEnd},
		{"0000", head.Tag{Class: 4}, api.ErrTag}, {"0000", head.Tag{Number: -1}, api.ErrTag}, {"0000", head.Tag{Number: topNumber + 1}, api.ErrTag}, // no element has a wrong tag
		{"", head.Tag{Class: 4}, api.ErrEnd}, {"3080", head.Tag{Class: 4}, api.ErrLen},
	} {
		for _, before := range []int{0, 3} {
			c := octet.New(append(make([]byte, before), raw(t, x.in)...))
			c.Take(before)
			if in, e := head.Open(c, x.tag); in != nil || e != x.want {
				t.Error(x.in, in, e)
			}
			if c.At() != before {
				t.Error(x.in, "moved to", c.At())
			}
		}
		if in, e := head.Alone(raw(t, x.in), x.tag); in != nil || e != x.want {
			t.Error("Alone", x.in, in, e)
		}
	}
}

// P2.5: elements one after the other, and one in another.
func TestOpenOneAfterAnother(t *testing.T) {
	c := octet.New(raw(t, "02010130060401aa0500000281ff"))
	a, e := head.Open(c, head.Of(head.Integer))
	if e != api.OK || octet.Hex(a.Rest()) != "01" || c.At() != 3 {
		t.Error(e, c.At())
	}
	if in, e := head.Open(c, head.Of(head.Integer)); in != nil || e != api.ErrTag || c.At() != 3 {
		t.Error(in, e, c.At())
	}
	s, e := head.Open(c, head.Of(head.Sequence))
	if e != api.OK || s.Left() != 6 || c.At() != 11 {
		t.Fatal(e, c.At())
	}
	if b, e := head.Open(s, head.Of(head.OctetString)); e != api.OK || octet.Hex(b.Rest()) != "aa" || s.At() != 3 {
		t.Error(e)
	}
	if n, e := head.Open(s, head.Of(head.Null)); e != api.OK || n == nil || n.Left() != 0 || s.At() != 5 {
		t.Error(e)
	}
	if in, e := head.Open(s, head.Of(0)); in != nil || e != api.ErrEnd || s.At() != 5 { // the inner cursor ends where its element ends
		t.Error(in, e, s.At())
	}
	if c.At() != 11 {
		t.Error("the outer cursor moved", c.At())
	}
}

// P2.5: Is looks at the header alone.
func TestIs(t *testing.T) {
	seq := head.Of(head.Sequence)
	for _, x := range []struct {
		in   string
		tag  head.Tag
		want bool
	}{
		{"3000", seq, true}, {"30050102", seq, true}, {"3000ff", seq, true}, {"308401000000", seq, true},
		{"1f814900", head.Tag{Number: 201}, true}, {"bf1f00", head.At(31, true), true},
		{"", seq, false}, {"30", seq, false}, {"3080", seq, false}, {"30817f", seq, false}, {"308401000001", seq, false}, {"3082", seq, false},
		{"3100", seq, false}, {"1000", seq, false}, {"7000", seq, false}, {"a000", head.At(0, false), false}, {"a100", head.At(0, true), false},
		{"1f1e00", head.Tag{Number: 30}, false}, {"0000", head.Tag{Class: 4}, false}, {"", head.Tag{}, false}, {"3080", head.Tag{}, false},
	} {
		for _, before := range []int{0, 3} {
			c := octet.New(append(make([]byte, before), raw(t, x.in)...))
			c.Take(before)
			for range 2 {
				if head.Is(c, x.tag) != x.want || c.At() != before {
					t.Error(x.in, !x.want, c.At())
				}
			}
		}
	}
}

// P2.5: bytes behind an element; Open's own errors come ahead of them.
func TestAlone(t *testing.T) {
	seq := head.Of(head.Sequence)
	for _, s := range []string{"3000", "3003050001"} {
		if c, e := head.Alone(raw(t, s), seq); e != api.OK || octet.Hex(c.Rest()) != s[4:] {
			t.Error(s, e)
		}
		for _, more := range []string{"00", "3000", "ffff"} {
			if c, e := head.Alone(raw(t, s+more), seq); c != nil || e != api.ErrMore {
				t.Error(s+more, c, e)
			}
		}
	}
	if c, e := head.Alone(raw(t, "310000"), seq); c != nil || e != api.ErrTag {
		t.Error(c, e)
	}
	if c, e := head.Alone(nil, seq); c != nil || e != api.ErrEnd {
		t.Error(c, e)
	}
}

// P2.6
func TestWrapLeavesItsArguments(t *testing.T) {
	back := []byte{1, 2, 3, 4, 5, 6}
	room := make([][]byte, 2, 6)
	room[0], room[1] = back[:2], back[3:4]
	a, _ := head.Wrap(head.Of(head.Sequence), room...)
	b, _ := head.Wrap(head.Of(head.Sequence), room...)
	spoil(a)
	if !bytes.Equal(back, []byte{1, 2, 3, 4, 5, 6}) || octet.Hex(b) != "3003010204" {
		t.Error(back, octet.Hex(b))
	}
	for i, x := range room[:6] {
		if i > 1 && x != nil || i <= 1 && len(x) == 0 {
			t.Error("the list of the contents changed", i)
		}
	}
	spoil(back)
	if octet.Hex(b) != "3003010204" {
		t.Error("the argument is retained", octet.Hex(b))
	}
}

// P2.6
func TestOpenIsNewMemory(t *testing.T) {
	in := raw(t, "3003010203")
	seq := head.Of(head.Sequence)
	outer := octet.New(in)
	opened, _ := head.Open(outer, seq)
	alone, _ := head.Alone(in, seq)
	other, _ := head.Alone(in, seq)
	spoil(other.Rest())
	spoil(in)
	if octet.Hex(opened.Rest()) != "010203" || octet.Hex(alone.Rest()) != "010203" {
		t.Error("the contents changed")
	}
	outer.Back(0)
	if octet.Hex(outer.Rest()) != "3003010203" {
		t.Error("the outer bytes changed")
	}
}
