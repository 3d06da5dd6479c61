package span_test

import (
	"math"
	"math/big"
	"math/rand"
	"testing"

	"quittance/span"
)

func of(from, to int) span.Span { return span.Span{From: from, To: to} }

// no is the canonical empty span.
var no = of(1, 0)

// some are numbers so few that each pair and each triple of spans between them can be tried.
var some = []int{math.MinInt, math.MinInt + 1, math.MinInt + 2, -2, -1, 0, 1, 2, 3, math.MaxInt - 2, math.MaxInt - 1, math.MaxInt}

// between returns each span from one number of l to another one, those that are empty too.
func between(l []int) []span.Span {
	var out []span.Span
	for _, from := range l {
		for _, to := range l {
			out = append(out, of(from, to))
		}
	}
	return out
}

// in tells in the chapter's words whether a second is in a span.
func in(s span.Span, t int) bool { return s.From <= t && t <= s.To }

// inAll tells whether a second is in each span.
func inAll(l []span.Span, t int) bool {
	for _, s := range l {
		if !in(s, t) {
			return false
		}
	}
	return true
}

// inAny tells whether a second is in one of the spans.
func inAny(l []span.Span, t int) bool {
	for _, s := range l {
		if in(s, t) {
			return true
		}
	}
	return false
}

// edges returns the ends of spans, the seconds beside them, and the first and the last second: between two of them no span begins or ends.
func edges(l ...span.Span) []int {
	out := []int{math.MinInt, 0, math.MaxInt}
	for _, s := range l {
		for _, n := range []int{s.From, s.To} {
			out = append(out, n)
			if n > math.MinInt {
				out = append(out, n-1)
			}
			if n < math.MaxInt {
				out = append(out, n+1)
			}
		}
	}
	return out
}

// exactly tells whether a span holds the seconds that belong, and no other one, and is the canonical one if none belongs; l are the spans of which belongs speaks.
func exactly(got span.Span, l []span.Span, belongs func(int) bool) bool {
	any := false
	for _, t := range edges(append(l[:len(l):len(l)], got)...) {
		if in(got, t) != belongs(t) {
			return false
		}
		any = any || belongs(t)
	}
	return any || got == no
}

// P11.2: every span between the numbers, with each second.
func TestEmptyIn(t *testing.T) {
	for _, s := range between(numbers) {
		if got := span.Empty(s); got != (s.From > s.To) {
			t.Error(s, got)
		}
		for _, at := range append(edges(s), numbers...) {
			if got := span.In(s, at); got != in(s, at) {
				t.Error(s, at, got)
			}
		}
	}
}

// several calls check with no span, and with every one, two and three of a few.
func several(check func(l ...span.Span)) {
	check()
	check([]span.Span{}...)
	for _, a := range between(some) {
		check(a)
		for _, b := range between(some) {
			check(a, b)
			check(b, no, a)
		}
	}
	few := between([]int{math.MinInt, -1, 0, 1, 2, math.MaxInt})
	for _, a := range few {
		for _, b := range few {
			for _, c := range few {
				check(a, b, c)
			}
		}
	}
}

// P11.2: no span, and every one, two and three of a few.
func TestMeet(t *testing.T) {
	several(func(l ...span.Span) {
		if got := span.Meet(l...); !exactly(got, l, func(at int) bool { return inAll(l, at) }) {
			t.Error(l, got)
		}
	})
	if got := span.Meet(); got != of(math.MinInt, math.MaxInt) {
		t.Error(got)
	}
}

// P11.2: spans that are empty, that touch, and that lie apart.
func TestMeetEdges(t *testing.T) {
	for _, c := range []struct {
		l    []span.Span
		want span.Span
	}{
		{[]span.Span{of(5, 4)}, no}, {[]span.Span{no}, no}, {[]span.Span{of(math.MaxInt, math.MinInt)}, no}, {[]span.Span{of(1, 5), of(9, 2), of(1, 5)}, no},
		{[]span.Span{of(1, 2), of(3, 4)}, no}, {[]span.Span{of(1, 3), of(3, 4)}, of(3, 3)}, {[]span.Span{of(7, 9), of(1, 3), of(1, 9)}, no}, {[]span.Span{of(0, 5), of(3, 9), of(4, 4)}, of(4, 4)},
		{[]span.Span{of(math.MinInt, math.MinInt), of(math.MinInt, math.MaxInt)}, of(math.MinInt, math.MinInt)}, {[]span.Span{of(math.MinInt, math.MinInt), of(math.MaxInt, math.MaxInt)}, no},
	} {
		if got := span.Meet(c.l...); got != c.want {
			t.Error(c.l, got)
		}
	}
}

// smallest tells in the chapter's words the smallest span that holds all seconds: it begins and ends at one of them.
func smallest(l []span.Span) span.Span {
	out, any := no, false
	for _, t := range edges(l...) {
		switch {
		case !inAny(l, t):
		case !any:
			out, any = of(t, t), true
		default:
			out = of(min(out.From, t), max(out.To, t))
		}
	}
	return out
}

// P11.2: no span, and every one, two and three of a few.
func TestCover(t *testing.T) {
	several(func(l ...span.Span) {
		if got := span.Cover(l...); got != smallest(l) {
			t.Error(l, got)
		}
	})
	if got := span.Cover(of(9, 2), of(5, 4)); got != no {
		t.Error(got)
	}
}

// P11.2: every two spans of a few.
func TestWithin(t *testing.T) {
	for _, a := range between(some) {
		for _, b := range between(some) {
			want := true
			for _, at := range edges(a, b) {
				want = want && (!in(a, at) || in(b, at))
			}
			if got := span.Within(a, b); got != want {
				t.Error(a, b, got)
			}
		}
	}
	if !span.Within(of(9, 2), of(5, 4)) || span.Within(of(0, 0), of(5, 4)) || span.Within(of(1, 3), of(1, 2)) || span.Within(of(1, 3), of(2, 3)) || span.Within(of(1, 9), of(2, 3)) {
		t.Error("within")
	}
}

// P11.3: every span between the numbers by each number.
func TestMove(t *testing.T) {
	for _, s := range between(numbers) {
		for _, by := range numbers {
			want := no
			if s.From <= s.To {
				want = of(plus(s.From, by), plus(s.To, by))
			}
			if got := span.Move(s, by); got != want {
				t.Error(s, by, got)
			}
		}
	}
	if got := span.Move(of(-3, 5), span.Begin); got != of(span.Begin, span.Begin+5) {
		t.Error(got)
	}
}

// grown tells in the chapter's words what Grow returns.
func grown(s span.Span, ahead, behind int) span.Span {
	out := of(minus(s.From, ahead), plus(s.To, behind))
	if s.From > s.To || out.From > out.To {
		return no
	}
	return out
}

// P11.3: every span between a few numbers by every two of them, and random ones.
func TestGrow(t *testing.T) {
	check := func(s span.Span, ahead, behind int) {
		t.Helper()
		if got := span.Grow(s, ahead, behind); got != grown(s, ahead, behind) {
			t.Error(s, ahead, behind, got)
		}
	}
	for _, s := range between(some) {
		for _, ahead := range some {
			for _, behind := range some {
				check(s, ahead, behind)
			}
		}
	}
	r := rand.New(rand.NewSource(3))
	for range 50000 {
		check(of(anyNumber(r), anyNumber(r)), anyNumber(r), anyNumber(r))
	}
}

// P11.3: a span that shrinks to one second or to none, one that was empty, and one that is moved to an end.
func TestGrowEdges(t *testing.T) {
	for _, c := range []struct {
		s             span.Span
		ahead, behind int
		want          span.Span
	}{
		{of(5, 9), 0, 0, of(5, 9)}, {of(5, 9), -2, -2, of(7, 7)}, {of(5, 9), -2, -3, no}, {of(5, 9), -5, 0, no}, {of(5, 9), -9, 9, of(14, 18)}, {of(5, 9), 10, -10, of(-5, -1)},
		{of(6, 5), 1, 1, no}, {of(6, 5), 9, 9, no}, {no, span.End, span.End, no}, {of(5, 9), span.End, span.End, of(5-span.End, span.End)}, {of(-5, 9), span.End, span.End, of(span.Begin, span.End)},
		{of(-1, 9), span.Begin, 0, no}, {of(-1, 9), span.Begin, span.End, of(span.End, span.End)}, {of(0, 0), span.End, span.Begin, no}, {of(0, 0), span.End, span.Begin + 1, of(span.Begin+1, span.Begin+1)}, {of(5, 9), 0, span.Begin, no},
	} {
		if got := span.Grow(c.s, c.ahead, c.behind); got != c.want {
			t.Error(c.s, c.ahead, c.behind, got)
		}
	}
}

// P11.3: every span between the numbers.
func TestLength(t *testing.T) {
	for _, s := range between(numbers) {
		want := 0
		if s.From <= s.To {
			n := new(big.Int).Sub(exact(s.To), exact(s.From))
			want = limited(n.Add(n, big.NewInt(1)))
		}
		if got := span.Length(s); got != want {
			t.Error(s, got)
		}
	}
	for s, want := range map[span.Span]int{
		of(1, span.End): span.End, of(0, span.End): span.End, of(2, span.End): span.End - 1, of(span.Begin, -1): span.End, of(span.Begin, -2): span.End,
		of(span.Begin, span.Begin): 1, of(span.End, span.End): 1, of(span.End, span.Begin): 0, no: 0, of(3, 3): 1, of(-1, 1): 3,
	} {
		if got := span.Length(s); got != want {
			t.Error(s, got)
		}
	}
}
