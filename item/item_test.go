package item_test

import (
	"bytes"
	"math"
	"math/rand"
	"slices"
	"testing"

	"quittance/api"
	"quittance/head"
	"quittance/item"
	"quittance/octet"
)

// farNumbers are numbers of no kid; some would be 0 or 1 if they were cut to 8, 16 or 32 bits.
var farNumbers = []int{math.MinInt, math.MinInt + 1, -1 << 32, -1<<32 + 1, -1 << 31, -65536, -256, -255, -2, -1, 256, 257, 65536, 65537, 1 << 31, 1 << 32, 1<<32 + 1, math.MaxInt - 1, math.MaxInt}

// wrongTags are tags that are not valid.
var wrongTags = []head.Tag{{Class: -1}, {Class: 4}, {Class: 4, Made: true}, {Number: -1}, {Number: 1 << 21}, {Number: 1 << 21, Made: true}, {Class: math.MinInt}, {Class: 256}, {Class: 1 << 32}, {Number: math.MaxInt}, {Number: 1 << 32, Made: true}, {Class: -1, Number: -1, Made: true}}

// raw returns the bytes of a hex text.
func raw(t *testing.T, hex string) []byte {
	t.Helper()
	b, e := octet.Unhex(hex)
	if e != api.OK {
		t.Fatal(hex, e)
	}
	return b
}

// leaf returns a tree with bytes.
func leaf(number int, b ...byte) item.Item {
	return item.Item{Tag: head.Tag{Number: number}, Bytes: b}
}

// seq returns a tree with kids.
func seq(kids ...item.Item) item.Item {
	return item.Item{Tag: head.Of(head.Sequence), Kids: kids}
}

// chain returns a tree of that depth, one in the other, around a leaf.
func chain(depth int) item.Item {
	t := leaf(head.Null)
	for range depth - 1 {
		t = seq(t)
	}
	return t
}

// wide returns a tree of that size, all but the first one kids of it.
func wide(size int) item.Item {
	return seq(slices.Repeat([]item.Item{leaf(head.Null)}, size-1)...)
}

// none reports whether t is zero.
func none(t item.Item) bool {
	return t.Tag == head.Tag{} && len(t.Bytes) == 0 && len(t.Kids) == 0
}

// equal reports whether a and b are equal, in the chapter's words.
func equal(a, b item.Item) bool {
	return a.Tag == b.Tag && bytes.Equal(a.Bytes, b.Bytes) && slices.EqualFunc(a.Kids, b.Kids, equal)
}

// depth returns the depth of t, in the chapter's words.
func depth(t item.Item) int {
	most := 0
	for _, k := range t.Kids {
		most = max(most, depth(k))
	}
	return 1 + most
}

// size returns the size of t, in the chapter's words.
func size(t item.Item) int {
	n := 1
	for _, k := range t.Kids {
		n += size(k)
	}
	return n
}

// visited is what Each yields.
type visited struct {
	depth int
	tree  item.Item
}

// listed returns the trees in t, each before its kids.
func listed(t item.Item, depth int) []visited {
	out := []visited{{depth, t}}
	for _, k := range t.Kids {
		out = append(out, listed(k, depth+1)...)
	}
	return out
}

// copied returns t in memory of its own.
func copied(t item.Item) item.Item {
	out := item.Item{Tag: t.Tag, Bytes: bytes.Clone(t.Bytes)}
	for _, k := range t.Kids {
		out.Kids = append(out.Kids, copied(k))
	}
	return out
}

// spoil writes over all of t, and over the memory behind the ends of its lists.
func spoil(t item.Item) {
	for i, b := 0, t.Bytes[:cap(t.Bytes)]; i < len(b); i++ {
		b[i] ^= 0xff
	}
	for i, l := 0, t.Kids[:cap(t.Kids)]; i < len(l); i++ {
		spoil(l[i])
		l[i] = item.Item{Tag: head.Tag{Class: 3, Number: 77}, Bytes: []byte("spoiled")}
	}
}

// grown returns a random tree, which is valid, or in about half the cases has something that no valid tree has.
func grown(r *rand.Rand, depth int, valid bool) item.Item {
	t := item.Item{Tag: head.Tag{Class: r.Intn(4), Number: r.Intn(40), Made: r.Intn(3) > 0}}
	if r.Intn(8) == 0 {
		t.Tag.Number = r.Intn(1 << 21)
	}
	if depth == 1 {
		t.Tag.Made = t.Tag.Made && r.Intn(3) == 0
	}
	odd := !valid && r.Intn(12) == 0
	if !t.Tag.Made || odd {
		t.Bytes = make([]byte, r.Intn(4))
		r.Read(t.Bytes)
		if r.Intn(20) == 0 {
			t.Bytes = make([]byte, 120+r.Intn(20))
		}
	}
	if (t.Tag.Made || odd) && depth > 1 {
		for range r.Intn(4) {
			t.Kids = append(t.Kids, grown(r, depth-1, valid))
		}
	}
	if !valid && r.Intn(60) == 0 {
		t.Tag = wrongTags[r.Intn(len(wrongTags))]
	}
	return t
}

// odd are trees that are not valid, each in a way of its own.
func odd() []item.Item {
	made := head.Of(head.Sequence)
	l := []item.Item{
		{Tag: head.Of(head.Integer), Kids: []item.Item{leaf(5)}},
		{Tag: head.Of(head.Integer), Kids: []item.Item{{}}},
		{Tag: head.Of(head.Integer), Bytes: []byte{1}, Kids: []item.Item{leaf(5), seq(leaf(5))}},
		{Tag: made, Bytes: []byte{1}},
		{Tag: made, Bytes: []byte{5, 0}, Kids: []item.Item{leaf(5)}},
		{Tag: head.At(0, true), Bytes: []byte{0}},
		{Tag: head.At(0, false), Kids: []item.Item{seq()}},
	}
	for _, tag := range wrongTags {
		l = append(l, item.Item{Tag: tag})
	}
	for _, t := range slices.Clone(l) {
		l = append(l, seq(t), seq(leaf(5), seq(leaf(5), t)), seq(t, leaf(5)))
	}
	return l
}

// P7.3: the chapter's example.
func TestExample(t *testing.T) {
	x, e := item.Parse(raw(t, "3003020105"))
	if e != api.OK || !equal(x, seq(leaf(head.Integer, 5))) || item.Depth(x) != 2 || item.Size(x) != 2 {
		t.Error(x, e)
	}
	if k, e := item.Find(x, 0); e != api.OK || !equal(k, leaf(head.Integer, 5)) {
		t.Error(k, e)
	}
	if x, e := item.Parse(raw(t, "30020201")); !none(x) || e != api.ErrEnd {
		t.Error(x, e)
	}
}

// P7.3: of all trees, valid or not.
func TestDepthAndSize(t *testing.T) {
	for _, x := range []struct {
		tree        item.Item
		depth, size int
	}{
		{item.Item{}, 1, 1}, {leaf(2, 1, 2, 3), 1, 1}, {seq(), 1, 1}, {item.Item{Kids: []item.Item{}}, 1, 1},
		{seq(leaf(5)), 2, 2}, {seq(seq()), 2, 2}, {seq(leaf(5), leaf(5), leaf(5)), 2, 4},
		{seq(seq(seq()), leaf(5)), 3, 4}, {seq(leaf(5), seq(seq())), 3, 4}, {seq(leaf(5), seq(seq()), leaf(5), seq()), 3, 6},
		{seq(seq(leaf(1), leaf(2)), seq(leaf(3), leaf(4))), 3, 7},
		{item.Item{Tag: head.Of(head.Integer), Bytes: []byte{1}, Kids: []item.Item{leaf(5), seq(leaf(5))}}, 3, 4},
		{chain(31), 31, 31}, {chain(32), 32, 32}, {chain(33), 33, 33}, {chain(1000), 1000, 1000}, {chain(1 << 16), 1 << 16, 1 << 16},
		{wide(9999), 2, 9999}, {wide(10000), 2, 10000}, {wide(10001), 2, 10001}, {wide(100000), 2, 100000},
		{leaf(4, make([]byte, 1<<24+1)...), 1, 1},
	} {
		if d, n := item.Depth(x.tree), item.Size(x.tree); d != x.depth || n != x.size {
			t.Error(x.depth, x.size, "but", d, n)
		}
	}
	r := rand.New(rand.NewSource(71))
	for range 3000 {
		x := grown(r, 1+r.Intn(6), false)
		if d, n := item.Depth(x), item.Size(x); d != depth(x) || n != size(x) {
			t.Error(x, d, n)
		}
	}
	for _, x := range odd() {
		if d, n := item.Depth(x), item.Size(x); d != depth(x) || n != size(x) {
			t.Error(x, d, n)
		}
	}
}

// P7.3
func TestFind(t *testing.T) {
	x := seq(leaf(1, 10), seq(leaf(2, 20), seq(leaf(3, 30)), leaf(4, 40)), leaf(6, 50))
	for _, w := range []struct {
		path []int
		want item.Item
	}{
		{nil, x}, {[]int{}, x},
		{[]int{0}, leaf(1, 10)}, {[]int{1}, x.Kids[1]}, {[]int{2}, leaf(6, 50)},
		{[]int{1, 0}, leaf(2, 20)}, {[]int{1, 1}, seq(leaf(3, 30))}, {[]int{1, 2}, leaf(4, 40)}, {[]int{1, 1, 0}, leaf(3, 30)},
	} {
		if k, e := item.Find(x, w.path...); e != api.OK || !equal(k, w.want) {
			t.Error(w.path, k, e)
		}
	}
	wrong := [][]int{{3}, {4}, {0, 0}, {2, 0}, {1, 3}, {1, 1, 1}, {1, 1, 0, 0}, {1, 1, 0, 0, 0}, {0, 0, 0}, {3, 0}, {0, 1}, {2, 1, 1}}
	for _, n := range farNumbers {
		wrong = append(wrong, []int{n}, []int{1, n}, []int{1, 1, n}, []int{n, 0}, []int{1, n, 0}, []int{1, 1, 0, n})
	}
	for _, path := range wrong {
		if k, e := item.Find(x, path...); !none(k) || e != api.ErrNone {
			t.Error(path, k, e)
		}
	}
	for _, path := range [][]int{{0}, {-1}, {0, 0}, {math.MaxInt}, make([]int, 1000)} {
		for _, x := range []item.Item{{}, seq(), leaf(2, 1, 2)} {
			if k, e := item.Find(x, path...); !none(k) || e != api.ErrNone {
				t.Error(x, path, k, e)
			}
		}
	}
}

// P7.3: of all trees, valid or not: a kid is a kid where no kids may be.
func TestFindInWhatIsNotValid(t *testing.T) {
	x := item.Item{Tag: head.Tag{Class: 9}, Bytes: []byte{1}, Kids: []item.Item{leaf(5), {Tag: head.Tag{Number: -1}, Bytes: []byte{2}}}}
	if k, e := item.Find(x); e != api.OK || !equal(k, x) {
		t.Error(k, e)
	}
	if k, e := item.Find(x, 1); e != api.OK || !equal(k, x.Kids[1]) {
		t.Error(k, e)
	}
	deep := chain(5000)
	if k, e := item.Find(deep, make([]int, 4999)...); e != api.OK || !equal(k, leaf(5)) {
		t.Error(k, e)
	}
	if k, e := item.Find(deep, make([]int, 5000)...); !none(k) || e != api.ErrNone {
		t.Error(k, e)
	}
	broad := wide(10002)
	broad.Kids[10000] = leaf(2, 9)
	if k, e := item.Find(broad, 10000); e != api.OK || !equal(k, leaf(2, 9)) {
		t.Error(k, e)
	}
	if k, e := item.Find(broad, 10001); !none(k) || e != api.ErrNone {
		t.Error(k, e)
	}
}

// P7.3: every path of random trees, and those just beyond.
func TestFindEverywhere(t *testing.T) {
	var all func(x, root item.Item, path []int)
	all = func(x, root item.Item, path []int) {
		if k, e := item.Find(root, path...); e != api.OK || !equal(k, x) {
			t.Error(root, path, k, e)
		}
		for _, beyond := range []int{-1, len(x.Kids), len(x.Kids) + 1} {
			if k, e := item.Find(root, append(slices.Clone(path), beyond)...); !none(k) || e != api.ErrNone {
				t.Error(root, path, beyond, k, e)
			}
		}
		for i, k := range x.Kids {
			all(k, root, append(slices.Clone(path), i))
		}
	}
	r := rand.New(rand.NewSource(72))
	for range 300 {
		x := grown(r, 5, false)
		all(x, x, nil)
	}
}

// P7.3: nil and empty are the same.
func TestSame(t *testing.T) {
	for _, x := range [][2]item.Item{
		{{}, {}}, {{Bytes: []byte{}}, {}}, {{Kids: []item.Item{}}, {}}, {{Bytes: []byte{}, Kids: []item.Item{}}, {}},
		{seq(), seq()}, {seq(), {Tag: head.Of(head.Sequence), Bytes: []byte{}, Kids: []item.Item{}}},
		{seq(leaf(5)), seq(item.Item{Tag: head.Of(5), Bytes: []byte{}, Kids: []item.Item{}})},
		{leaf(2, 1, 2), leaf(2, 1, 2)}, {seq(leaf(1, 255), seq(leaf(5))), seq(leaf(1, 255), seq(leaf(5)))},
		{chain(40), chain(40)}, {wide(10001), wide(10001)}, {{Tag: head.Tag{Class: -7}}, {Tag: head.Tag{Class: -7}}},
	} {
		if !item.Same(x[0], x[1]) || !item.Same(x[1], x[0]) {
			t.Error(x)
		}
	}
}

// unlike returns trees that differ from t in one place alone, which is t itself.
func unlike(t item.Item) []item.Item {
	var out []item.Item
	change := func(f func(x *item.Item)) {
		x := copied(t)
		f(&x)
		out = append(out, x)
	}
	change(func(x *item.Item) { x.Tag.Class++ })
	change(func(x *item.Item) { x.Tag.Class += 1 << 32 })
	change(func(x *item.Item) { x.Tag.Number-- })
	change(func(x *item.Item) { x.Tag.Number += 256 })
	change(func(x *item.Item) { x.Tag.Made = !x.Tag.Made })
	change(func(x *item.Item) { x.Bytes = append(x.Bytes, 0) })
	change(func(x *item.Item) { x.Kids = append(x.Kids, item.Item{}) })
	if n := len(t.Bytes); n > 0 {
		change(func(x *item.Item) { x.Bytes = x.Bytes[:n-1] })
		change(func(x *item.Item) { x.Bytes[0] ^= 1 })
		change(func(x *item.Item) { x.Bytes[n-1] ^= 128 })
	}
	if n := len(t.Kids); n > 0 {
		change(func(x *item.Item) { x.Kids = x.Kids[:n-1] })
	}
	if n := len(t.Kids); n > 1 && !equal(t.Kids[0], t.Kids[n-1]) {
		change(func(x *item.Item) { x.Kids[0], x.Kids[n-1] = x.Kids[n-1], x.Kids[0] })
	}
	return out
}

// variants returns trees that differ from t in one place alone, anywhere in it.
func variants(t item.Item) []item.Item {
	out := unlike(t)
	for i, k := range t.Kids {
		for _, v := range variants(k) {
			x := copied(t)
			x.Kids[i] = v
			out = append(out, x)
		}
	}
	return out
}

// P7.3: unlike in one place alone.
func TestNotSame(t *testing.T) {
	roots := []item.Item{{}, leaf(2, 1, 2), seq(), seq(leaf(5)), seq(leaf(1, 255), seq(leaf(2, 1), seq(), leaf(4, 1, 2, 3)), leaf(5)), odd()[2]}
	r := rand.New(rand.NewSource(73))
	for range 100 {
		roots = append(roots, grown(r, 4, false))
	}
	for _, root := range roots {
		if !item.Same(root, copied(root)) {
			t.Error(root)
		}
		for _, v := range variants(root) {
			if item.Same(root, v) || item.Same(v, root) {
				t.Error(root, v)
			}
		}
	}
	for i, a := range roots {
		for j, b := range roots {
			if item.Same(a, b) != (i == j || equal(a, b)) {
				t.Error(a, b)
			}
		}
	}
}

// P7.4: the order and the depths, stopped at each point, and once more from the beginning.
func TestEach(t *testing.T) {
	roots := append(odd(), item.Item{}, leaf(2, 7), seq(), seq(leaf(5)), seq(seq(leaf(1), leaf(2)), leaf(3), seq(seq(leaf(4)))), chain(33), wide(40))
	r := rand.New(rand.NewSource(74))
	for range 300 {
		roots = append(roots, grown(r, 5, false))
	}
	for _, root := range roots {
		want := listed(root, 1)
		each := item.Each(root)
		for stop := range len(want) + 1 {
			n := 0
			for d, x := range each {
				if d != want[n].depth || !equal(x, want[n].tree) {
					t.Error(root, n, d, x)
				}
				if n++; n == stop {
					break
				}
			}
			if stop > 0 && n != stop || stop == 0 && n != len(want) {
				t.Error(root, stop, n)
			}
		}
	}
}

// P7.4: one walk within another of the same trees, and walks that a function leaves.
func TestEachWithin(t *testing.T) {
	root := seq(seq(leaf(1), leaf(2)), leaf(3))
	each, n := item.Each(root), 0
	for d := range each {
		for inner := range each {
			n += d * inner
		}
	}
	if n != (1+2+3+3+2)*(1+2+3+3+2) {
		t.Error(n)
	}
	first := func(number int) int {
		for d, x := range item.Each(root) {
			if x.Tag.Number == number {
				return d
			}
		}
		return 0
	}
	if first(16) != 1 || first(2) != 3 || first(3) != 2 || first(4) != 0 {
		t.Error(first(16), first(2), first(3), first(4))
	}
}

// P7.4: yield is not called again once it has returned false.
func TestEachStops(t *testing.T) {
	root := seq(seq(leaf(1), leaf(2)), leaf(3), seq(leaf(4)))
	for stop := 1; stop <= 7; stop++ {
		n := 0
		item.Each(root)(func(int, item.Item) bool {
			n++
			return n < stop
		})
		if n != stop {
			t.Error(stop, n)
		}
	}
}

// P7.4: each tree of a long and of a deep one.
func TestEachOfMany(t *testing.T) {
	n := 0
	for d, x := range item.Each(wide(20000)) {
		if n == 0 && (d != 1 || len(x.Kids) != 19999) || n > 0 && (d != 2 || !equal(x, leaf(5))) {
			t.Fatal(n, d)
		}
		n++
	}
	if n != 20000 {
		t.Error(n)
	}
	n = 0
	for d, x := range item.Each(chain(1000)) {
		if n++; d != n || depth(x) != 1001-n {
			t.Fatal(n, d)
		}
	}
	if n != 1000 {
		t.Error(n)
	}
}

// roomy returns a tree whose lists have memory behind their ends.
func roomy() (root item.Item, behind func() bool) {
	b := []byte{1, 2, 3, 4}
	kids := make([]item.Item, 4)
	kids[0], kids[1] = item.Item{Tag: head.Of(head.Integer), Bytes: b[:2]}, seq(leaf(5), leaf(4, 9))
	kids[2], kids[3] = leaf(1, 7), leaf(1, 8)
	root = item.Item{Tag: head.Of(head.Sequence), Bytes: []byte{5, 6}[:0], Kids: kids[:2]}
	return root, func() bool {
		return octet.Hex(b) == "01020304" && octet.Hex(root.Bytes[:2]) == "0506" && equal(kids[2], leaf(1, 7)) && equal(kids[3], leaf(1, 8)) && equal(root, seq(leaf(2, 1, 2), seq(leaf(5), leaf(4, 9))))
	}
}

// P7.5: arguments are not changed, and results are new memory.
func TestMemoryOfFind(t *testing.T) {
	for _, path := range [][]int{nil, {0}, {1}, {1, 1}} {
		root, kept := roomy()
		x, _ := item.Find(root, path...)
		y, _ := item.Find(root, path...)
		want := copied(x)
		spoil(x)
		if !kept() || !equal(y, want) {
			t.Error(path, "a result is shared")
		}
		spoil(root)
		if !equal(y, want) {
			t.Error(path, "the argument is retained")
		}
	}
	path := []int{1, 1, 7}[:2]
	item.Find(seq(leaf(1), seq(leaf(2), leaf(3))), path...)
	if !slices.Equal(path[:3], []int{1, 1, 7}) {
		t.Error(path[:3])
	}
}

// P7.5: what Each yields is neither of its argument nor of what it yielded before or yields again.
func TestMemoryOfEach(t *testing.T) {
	root, kept := roomy()
	want := listed(copied(root), 1)
	each, n := item.Each(root), 0
	for range 2 {
		n = 0
		for d, x := range each {
			if d != want[n].depth || !equal(x, want[n].tree) {
				t.Error(n, d, x)
			}
			spoil(x)
			n++
		}
		if n != len(want) || !kept() {
			t.Error(n, "a result is shared")
		}
	}
	var all []item.Item
	for _, x := range each {
		all = append(all, x)
	}
	for i, x := range all {
		if !equal(x, want[i].tree) {
			t.Error(i, "two results are shared")
		}
		spoil(x)
	}
	spoil(root)
	n = 0
	for d, x := range each {
		if d != want[n].depth || !equal(x, want[n].tree) {
			t.Error(n, "the argument is retained")
		}
		n++
	}
}

// P7.5
func TestMemoryOfTheOthers(t *testing.T) {
	root, kept := roomy()
	item.Depth(root)
	item.Size(root)
	item.Right(root)
	item.Same(root, root)
	if !kept() {
		t.Error("an argument is changed")
	}
}
