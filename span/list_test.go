package span_test

import (
	"math"
	"math/rand"
	"slices"
	"testing"

	"quittance/span"
)

// inOrder tells in the chapter's words whether a list is in order.
func inOrder(l []span.Span) bool {
	for i, s := range l {
		if s.From > s.To {
			return false
		}
		if i > 0 && (l[i-1].To > math.MaxInt-2 || l[i-1].To+2 > s.From) {
			return false
		}
	}
	return true
}

// ordered tells whether a list is the one in order of the seconds that belong; l are the spans of which belongs speaks.
func ordered(got, l []span.Span, belongs func(int) bool) bool {
	if !inOrder(got) {
		return false
	}
	for _, t := range edges(append(slices.Clone(l), got...)...) {
		if inAny(got, t) != belongs(t) {
			return false
		}
	}
	return true
}

// anyList returns a random list of spans whose ends are often the same or beside each other, and that may be empty.
func anyList(r *rand.Rand) []span.Span {
	l := make([]span.Span, r.Intn(8))
	for i := range l {
		l[i] = anySpan(r)
	}
	return l
}

func anySpan(r *rand.Rand) span.Span {
	from := anyEnd(r)
	switch r.Intn(3) {
	case 0:
		return of(from, anyEnd(r))
	case 1:
		return of(from, from)
	}
	return of(from, plus(from, r.Intn(6)-1))
}

// anyEnd returns a second near 0 or near one of the ends.
func anyEnd(r *rand.Rand) int {
	switch n := r.Intn(24); r.Intn(4) {
	case 0:
		return math.MinInt + n
	case 1:
		return math.MaxInt - n
	default:
		return n - 12
	}
}

// P11.4: no span, every one, two and three of a few, and random lists.
func TestNorm(t *testing.T) {
	check := func(l ...span.Span) {
		if got := span.Norm(l...); !ordered(got, l, func(at int) bool { return inAny(l, at) }) {
			t.Error(l, got)
		}
	}
	several(check)
	r := rand.New(rand.NewSource(4))
	for range 50000 {
		check(anyList(r)...)
	}
}

// P11.4: spans that overlap, touch, lie one second apart, and hold each other, in each order.
func TestNormEdges(t *testing.T) {
	for _, c := range []struct{ l, want []span.Span }{
		{nil, nil}, {[]span.Span{no}, nil}, {[]span.Span{of(5, 4), of(9, -9), of(span.End, span.Begin)}, nil},
		{[]span.Span{of(1, 3), of(4, 4), of(5, 9)}, []span.Span{of(1, 9)}}, {[]span.Span{of(1, 3), of(4, 4), of(6, 9)}, []span.Span{of(1, 4), of(6, 9)}},
		{[]span.Span{of(1, 3), of(5, 9)}, []span.Span{of(1, 3), of(5, 9)}}, {[]span.Span{of(1, 3), of(4, 9)}, []span.Span{of(1, 9)}},
		{[]span.Span{of(1, 9), of(2, 3), of(5, 6)}, []span.Span{of(1, 9)}}, {[]span.Span{of(1, 9), of(2, 3), of(11, 12)}, []span.Span{of(1, 9), of(11, 12)}},
		{[]span.Span{of(1, 1), of(1, 9), of(1, 4)}, []span.Span{of(1, 9)}}, {[]span.Span{of(7, 7), of(7, 7), of(7, 7)}, []span.Span{of(7, 7)}},
		{[]span.Span{of(1, 3), of(4, 3), of(5, 6)}, []span.Span{of(1, 3), of(5, 6)}}, {[]span.Span{of(1, 3), of(8, 2), of(9, 9)}, []span.Span{of(1, 3), of(9, 9)}},
		{[]span.Span{of(0, span.End), of(span.End, span.End), of(5, span.End)}, []span.Span{of(0, span.End)}},
		{[]span.Span{of(span.Begin, span.Begin), of(span.Begin+1, -1), of(1, span.End-1), of(span.End, span.End)}, []span.Span{of(span.Begin, -1), of(1, span.End)}},
		{[]span.Span{of(span.Begin, span.Begin), of(span.Begin+2, -1), of(1, span.End-2), of(span.End, span.End)}, []span.Span{of(span.Begin, span.Begin), of(span.Begin+2, -1), of(1, span.End-2), of(span.End, span.End)}},
		{[]span.Span{of(span.Begin, -1), of(0, span.End), no}, []span.Span{of(span.Begin, span.End)}},
	} {
		for turn := range len(c.l) + 1 {
			l := append(slices.Clone(c.l[turn:]), c.l[:turn]...)
			if got := span.Norm(l...); !slices.Equal(got, c.want) {
				t.Error(l, got)
			}
			slices.Reverse(l)
			if got := span.Norm(l...); !slices.Equal(got, c.want) {
				t.Error(l, got)
			}
		}
	}
}

// P11.4: a list in order is its own, and the order of the arguments says nothing.
func TestNormAgain(t *testing.T) {
	r := rand.New(rand.NewSource(5))
	for range 5000 {
		l := anyList(r)
		want := span.Norm(l...)
		if got := span.Norm(want...); !slices.Equal(got, want) {
			t.Fatal(want, got)
		}
		r.Shuffle(len(l), func(i, j int) { l[i], l[j] = l[j], l[i] })
		if got := span.Norm(l...); !slices.Equal(got, want) {
			t.Fatal(l, got, want)
		}
	}
}

// P1, P11.4: a hundred thousand spans, in a random order.
func TestLongLists(t *testing.T) {
	const size = 100000
	var apart, close []span.Span
	for i := range size {
		apart = append(apart, of(4*i, 4*i+2))
		close = append(close, of(4*i, 4*i+3))
	}
	l := slices.Clone(apart)
	r := rand.New(rand.NewSource(6))
	r.Shuffle(size, func(i, j int) { l[i], l[j] = l[j], l[i]; close[i], close[j] = close[j], close[i] })
	if got := span.Norm(l...); !slices.Equal(got, apart) {
		t.Error(len(got))
	}
	if got := span.Norm(close...); !slices.Equal(got, []span.Span{of(0, 4*size-1)}) {
		t.Error(len(got))
	}
	if got := span.Without(l, of(2, 4*size-4)); !slices.Equal(got, []span.Span{of(0, 1), of(4*size-3, 4*size-2)}) {
		t.Error(len(got))
	}
	if got := span.Cover(l...); got != of(0, 4*size-2) {
		t.Error(got)
	}
	if got := span.Meet(l...); got != no {
		t.Error(got)
	}
	if !span.Holds(l, 4*size-2) || span.Holds(l, 4*size-1) || span.Holds(l, 3) {
		t.Error("holds")
	}
}

// P11.4: lists of no, one and two spans, and random ones, with each second that may differ.
func TestHolds(t *testing.T) {
	check := func(l []span.Span) {
		t.Helper()
		for _, at := range append(edges(l...), some...) {
			if got := span.Holds(l, at); got != inAny(l, at) {
				t.Error(l, at, got)
			}
		}
	}
	check(nil)
	check([]span.Span{})
	for _, a := range between(some) {
		check([]span.Span{a})
	}
	for _, l := range [][]span.Span{{of(1, 2), of(5, 6)}, {of(5, 6), of(1, 2)}, {no, of(7, 7)}, {of(9, 2), of(3, 1)}, {of(1, 9), of(2, 3)}} {
		check(l)
	}
	r := rand.New(rand.NewSource(7))
	for range 5000 {
		check(anyList(r))
	}
}

// P11.4: no span, every one of a few, and random lists, without each of a few.
func TestWithout(t *testing.T) {
	check := func(l []span.Span, s span.Span) {
		t.Helper()
		belongs := func(at int) bool { return inAny(l, at) && !in(s, at) }
		if got := span.Without(l, s); !ordered(got, append(slices.Clone(l), s), belongs) {
			t.Error(l, s, got)
		}
	}
	for _, s := range between(some) {
		check(nil, s)
		for _, a := range between(some) {
			check([]span.Span{a}, s)
			check([]span.Span{of(0, 2), a}, s)
		}
	}
	r := rand.New(rand.NewSource(8))
	for range 50000 {
		check(anyList(r), anySpan(r))
	}
}

// P11.4: a span that lies ahead, behind, in the midst, at an end and over all, one that is empty, and lists that are not in order.
func TestWithoutEdges(t *testing.T) {
	all := []span.Span{of(span.Begin, span.End)}
	two := []span.Span{of(1, 5), of(8, 9)}
	for _, c := range []struct {
		l    []span.Span
		s    span.Span
		want []span.Span
	}{
		{all, of(3, 3), []span.Span{of(span.Begin, 2), of(4, span.End)}}, {all, of(span.Begin, span.End), nil}, {all, no, all}, {all, of(9, 2), all}, {all, of(span.End, span.Begin), all},
		{all, of(span.Begin, span.Begin), []span.Span{of(span.Begin+1, span.End)}}, {all, of(span.End, span.End), []span.Span{of(span.Begin, span.End-1)}},
		{all, of(span.Begin, span.End-1), []span.Span{of(span.End, span.End)}}, {all, of(span.Begin+1, span.End), []span.Span{of(span.Begin, span.Begin)}},
		{[]span.Span{of(span.Begin, span.Begin)}, of(span.Begin, span.Begin), nil}, {[]span.Span{of(span.End, span.End)}, of(span.End, span.End), nil},
		{[]span.Span{of(span.Begin, span.Begin)}, of(span.Begin, 7), nil}, {[]span.Span{of(span.End, span.End)}, of(7, span.End), nil},
		{two, of(-1, 0), two}, {two, of(6, 7), two}, {two, of(10, 12), two}, {two, of(0, 10), nil}, {two, of(1, 1), []span.Span{of(2, 5), of(8, 9)}}, {two, of(5, 8), []span.Span{of(1, 4), of(9, 9)}},
		{two, of(3, 3), []span.Span{of(1, 2), of(4, 5), of(8, 9)}}, {two, of(9, 20), []span.Span{of(1, 5), of(8, 8)}}, {two, of(4, 3), two},
		{[]span.Span{of(5, 9), no, of(1, 4), of(2, 6), of(7, 3)}, of(3, 4), []span.Span{of(1, 2), of(5, 9)}}, {[]span.Span{of(5, 9), of(1, 4)}, no, []span.Span{of(1, 9)}},
		{[]span.Span{no, of(3, 1)}, of(2, 2), nil}, {nil, of(1, 2), nil}, {nil, no, nil}, {[]span.Span{}, of(1, 2), nil},
	} {
		if got := span.Without(c.l, c.s); !slices.Equal(got, c.want) {
			t.Error(c.l, c.s, got)
		}
	}
}

// P11.5: arguments are not changed, nor what lies beyond their length.
func TestArgumentsStay(t *testing.T) {
	r := rand.New(rand.NewSource(9))
	for range 2000 {
		room := append(anyList(r), of(7, 9), of(5, 4), of(-3, -1), of(0, 0))
		was := slices.Clone(room)
		l := room[:r.Intn(len(room))]
		at := anyEnd(r)
		span.Norm(l...)
		span.Without(l, anySpan(r))
		span.Holds(l, at)
		span.Meet(l...)
		span.Cover(l...)
		if !slices.Equal(room, was) {
			t.Fatal(was, room)
		}
	}
	room := []int{span.End, 5, span.Begin, -1, 9}
	was := slices.Clone(room)
	if span.Add(3, room[:3]...); !slices.Equal(room, was) {
		t.Error(room)
	}
}

// P11.5: a result shares no memory with an argument or with another result.
func TestResultsAreNew(t *testing.T) {
	for _, call := range []func([]span.Span) []span.Span{
		func(l []span.Span) []span.Span { return span.Norm(l...) },
		func(l []span.Span) []span.Span { return span.Without(l, of(90, 99)) },
		func(l []span.Span) []span.Span { return span.Without(l, no) },
	} {
		for _, l := range [][]span.Span{{of(1, 2)}, {of(1, 2), of(5, 6)}, {of(1, 2), of(5, 6), of(8, 9)}, {of(5, 6), of(1, 2), no}} {
			was := slices.Clone(l)
			one, other := call(l), call(l)
			want := slices.Clone(other)
			for i := range one {
				one[i] = of(44, 45)
			}
			_ = append(one, of(46, 47)) // what may lie beyond the result's length is its own too
			if !slices.Equal(other, want) || !slices.Equal(l, was) {
				t.Error(was, l, other)
			}
			if again := call(l); !slices.Equal(again, want) {
				t.Error(again, want)
			}
		}
	}
}

// P11.1, P11.4: the chapter's examples.
func TestExamples(t *testing.T) {
	if span.Add(span.End, 1) != span.End || span.Sub(span.Begin, 1) != span.Begin {
		t.Error("sums")
	}
	l := span.Norm(of(5, 9), of(1, 3), of(4, 4))
	if !slices.Equal(l, []span.Span{of(1, 9)}) {
		t.Error(l)
	}
	if m := span.Without(l, of(3, 4)); !slices.Equal(m, []span.Span{of(1, 2), of(5, 9)}) {
		t.Error(m)
	}
}
