package octet_test

import (
	"bytes"
	"math"
	"testing"

	"quittance/api"
	"quittance/octet"
)

// at checks where a cursor stands, and how much it has left.
func at(t *testing.T, c *octet.Cursor, position, left int) {
	t.Helper()
	if c.At() != position || c.Left() != left {
		t.Errorf("at %d with %d left, want at %d with %d left", c.At(), c.Left(), position, left)
	}
}

// moved returns a cursor over b at the position n.
func moved(t *testing.T, b []byte, n int) *octet.Cursor {
	t.Helper()
	c := octet.New(b)
	if _, e := c.Take(n); e != api.OK {
		t.Fatal(e)
	}
	return c
}

func TestChapterExample(t *testing.T) {
	c := octet.New([]byte{1, 2, 3})
	if x, e := c.Byte(); x != 1 || e != api.OK {
		t.Error(x, e)
	}
	if b, e := c.Take(2); !bytes.Equal(b, []byte{2, 3}) || e != api.OK {
		t.Error(b, e)
	}
	at(t, c, 3, 0)
	if x, e := c.Byte(); x != 0 || e != api.ErrEnd {
		t.Error(x, e)
	}
	if e := c.Back(1); e != api.OK {
		t.Error(e)
	}
	if x, e := c.Peek(); x != 2 || e != api.OK {
		t.Error(x, e)
	}
}

// P1.1
func TestNewStartsAtZero(t *testing.T) {
	for _, b := range [][]byte{nil, {}, {7}, {0, 0}, bytes.Repeat([]byte{9}, 1000)} {
		at(t, octet.New(b), 0, len(b))
	}
}

// P1.1
func TestNewSeesOnlyTheLength(t *testing.T) {
	back := []byte{1, 2, 3, 4}
	c := octet.New(back[:2])
	at(t, c, 0, 2)
	if b := c.Rest(); !bytes.Equal(b, []byte{1, 2}) {
		t.Error(b)
	}
}

// P1.1: ErrState comes ahead of ErrArg and ErrEnd.
func TestNilCursor(t *testing.T) {
	var c *octet.Cursor
	at(t, c, 0, 0)
	if b := c.Rest(); len(b) != 0 {
		t.Error(b)
	}
	if x, e := c.Peek(); x != 0 || e != api.ErrState {
		t.Error(x, e)
	}
	if x, e := c.Byte(); x != 0 || e != api.ErrState {
		t.Error(x, e)
	}
	for _, n := range []int{math.MinInt, -1, 0, 1, math.MaxInt} {
		if b, e := c.Take(n); b != nil || e != api.ErrState {
			t.Error("Take", n, b, e)
		}
		if s, e := c.Sub(n); s != nil || e != api.ErrState {
			t.Error("Sub", n, s, e)
		}
		if e := c.Back(n); e != api.ErrState {
			t.Error("Back", n, e)
		}
	}
}

// P1.1: New(nil) is a cursor without bytes, not a nil one.
func TestEmptyCursor(t *testing.T) {
	for _, b := range [][]byte{nil, {}} {
		c := octet.New(b)
		if x, e := c.Peek(); x != 0 || e != api.ErrEnd {
			t.Error(x, e)
		}
		if x, e := c.Byte(); x != 0 || e != api.ErrEnd {
			t.Error(x, e)
		}
		if b, e := c.Take(0); len(b) != 0 || e != api.OK {
			t.Error(b, e)
		}
		if s, e := c.Sub(0); s == nil || s.Left() != 0 || e != api.OK {
			t.Error(s, e)
		}
		if b := c.Rest(); len(b) != 0 {
			t.Error(b)
		}
		if e := c.Back(0); e != api.OK {
			t.Error(e)
		}
		if e := c.Back(1); e != api.ErrArg {
			t.Error(e)
		}
		at(t, c, 0, 0)
	}
}

// P1.2
func TestPeekStaysAndByteAdvances(t *testing.T) {
	in := []byte{0, 255, 128}
	c := octet.New(in)
	for i, want := range in {
		for range 2 {
			if x, e := c.Peek(); x != want || e != api.OK {
				t.Error(i, x, e)
			}
			at(t, c, i, len(in)-i)
		}
		if x, e := c.Byte(); x != want || e != api.OK {
			t.Error(i, x, e)
		}
		at(t, c, i+1, len(in)-i-1)
	}
	for range 2 {
		if x, e := c.Peek(); x != 0 || e != api.ErrEnd {
			t.Error(x, e)
		}
		if x, e := c.Byte(); x != 0 || e != api.ErrEnd {
			t.Error(x, e)
		}
		at(t, c, 3, 0)
	}
}

// takeWant tells what Take and Sub return for n with left bytes left.
func takeWant(n, left int) api.Errno {
	if n < 0 {
		return api.ErrArg
	}
	if n > left {
		return api.ErrEnd
	}
	return api.OK
}

// P1.2: every position of a short string, with every n around the edges.
func TestTakeAndSub(t *testing.T) {
	in := []byte{10, 11, 12, 13}
	for from := range len(in) + 1 {
		for _, n := range []int{math.MinInt, -2, -1, 0, 1, 2, 3, 4, 5, 6, math.MaxInt - 1, math.MaxInt} {
			want := takeWant(n, len(in)-from)
			next, bytesWanted := from, []byte(nil)
			if want == api.OK {
				next, bytesWanted = from+n, in[from:from+n]
			}

			c := moved(t, in, from)
			if b, e := c.Take(n); e != want || !bytes.Equal(b, bytesWanted) {
				t.Error("Take", from, n, b, e)
			}
			at(t, c, next, len(in)-next)

			c = moved(t, in, from)
			s, e := c.Sub(n)
			if e != want || (s == nil) != (want != api.OK) {
				t.Fatal("Sub", from, n, s, e)
			}
			at(t, c, next, len(in)-next)
			at(t, s, 0, len(bytesWanted))
			if b := s.Rest(); !bytes.Equal(b, bytesWanted) {
				t.Error("Sub", from, n, b)
			}
		}
	}
}

// P1.2: a cursor from Sub ends where its bytes end, and moves by itself.
func TestSubStandsAlone(t *testing.T) {
	c := moved(t, []byte{1, 2, 3, 4, 5}, 1)
	s, e := c.Sub(3)
	if e != api.OK {
		t.Fatal(e)
	}
	if b, e := s.Take(4); b != nil || e != api.ErrEnd {
		t.Error(b, e)
	}
	if e := s.Back(1); e != api.ErrArg {
		t.Error(e)
	}
	inner, e := s.Sub(2)
	if e != api.OK || !bytes.Equal(inner.Rest(), []byte{2, 3}) {
		t.Error(e)
	}
	at(t, inner, 2, 0)
	at(t, s, 2, 1)
	at(t, c, 4, 1)
	if e := c.Back(0); e != api.OK {
		t.Error(e)
	}
	at(t, s, 2, 1)
	if x, e := s.Byte(); x != 4 || e != api.OK {
		t.Error(x, e)
	}
	if x, e := s.Byte(); x != 0 || e != api.ErrEnd {
		t.Error(x, e)
	}
}

// P1.3
func TestRest(t *testing.T) {
	in := []byte{1, 2, 3}
	for from := range len(in) + 1 {
		c := moved(t, in, from)
		if b := c.Rest(); !bytes.Equal(b, in[from:]) {
			t.Error(from, b)
		}
		at(t, c, 3, 0)
		if b := c.Rest(); len(b) != 0 {
			t.Error(from, b)
		}
		at(t, c, 3, 0)
	}
}

// P1.3: every pair of positions, and what lies outside.
func TestBack(t *testing.T) {
	in := []byte{20, 21, 22}
	for from := range len(in) + 1 {
		for _, to := range []int{math.MinInt, -1, 0, 1, 2, 3, 4, math.MaxInt} {
			c := moved(t, in, from)
			want, place := api.ErrArg, from
			if to >= 0 && to <= from {
				want, place = api.OK, to
			}
			if e := c.Back(to); e != want {
				t.Error(from, to, e)
			}
			at(t, c, place, len(in)-place)
			if b := c.Rest(); !bytes.Equal(b, in[place:]) {
				t.Error(from, to, b)
			}
		}
	}
}

// spoil writes over a result, up to its capacity.
func spoil(b []byte) {
	b = b[:cap(b)]
	for i := range b {
		b[i] = ^b[i]
	}
}

// P1.6
func TestNewCopies(t *testing.T) {
	in := []byte{1, 2, 3}
	c := octet.New(in)
	spoil(in)
	if b := c.Rest(); !bytes.Equal(b, []byte{1, 2, 3}) {
		t.Error(b)
	}
}

// P1.6
func TestCursorLeavesItsArgument(t *testing.T) {
	back := []byte{1, 2, 3, 4, 5}
	c := octet.New(back[:3])
	a, _ := c.Take(1)
	spoil(a)
	spoil(c.Rest())
	if !bytes.Equal(back, []byte{1, 2, 3, 4, 5}) {
		t.Error(back)
	}
}

// P1.6: whatever is done to a result, the cursor, its subs and the other results stay.
func TestResultsShareNothing(t *testing.T) {
	want := []byte{1, 2, 3, 4}
	c := octet.New(want)
	first, _ := c.Take(4)
	c.Back(0)
	second, _ := c.Take(4)
	c.Back(0)
	sub, _ := c.Sub(4)
	c.Back(0)
	third := c.Rest()
	c.Back(0)
	spoil(first)
	spoil(third)
	if !bytes.Equal(second, want) {
		t.Error("another result changed", second)
	}
	inSub := sub.Rest()
	if !bytes.Equal(inSub, want) {
		t.Error("the sub changed", inSub)
	}
	spoil(inSub)
	sub.Back(0)
	if b := sub.Rest(); !bytes.Equal(b, want) {
		t.Error("the sub changed", b)
	}
	if b := c.Rest(); !bytes.Equal(b, want) {
		t.Error("the cursor changed", b)
	}
}

// P1.6: neighbouring results do not overlap beyond their lengths.
func TestNeighboursDoNotOverlap(t *testing.T) {
	c := octet.New([]byte{1, 2, 3, 4})
	a, _ := c.Take(2)
	b, _ := c.Take(2)
	_ = append(a, 9, 9)
	spoil(a)
	if !bytes.Equal(b, []byte{3, 4}) {
		t.Error(b)
	}
	c.Back(2)
	if again := c.Rest(); !bytes.Equal(again, []byte{3, 4}) {
		t.Error(again)
	}
}

// Determinism: two cursors over the same bytes do not see each other.
func TestCursorsAreIndependent(t *testing.T) {
	in := []byte{1, 2}
	a, b := octet.New(in), octet.New(in)
	a.Byte()
	at(t, a, 1, 1)
	at(t, b, 0, 2)
}
