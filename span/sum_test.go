package span_test

import (
	"math"
	"math/big"
	"math/rand"
	"slices"
	"testing"

	"quittance/span"
)

// numbers are those around 0, around both ends and their halves, and those around a cut to 8, 16 or 32 bits.
var numbers = []int{
	math.MinInt, math.MinInt + 1, math.MinInt + 2, math.MinInt + 3, math.MinInt/2 - 1, math.MinInt / 2, math.MinInt/2 + 1,
	-1<<32 - 1, -1 << 32, -1<<32 + 1, -1<<31 - 1, -1 << 31, -1 << 16, -129, -128, -62167219200, -3, -2, -1, 0, 1, 2, 3, 127, 128, 255, 256, 1 << 16, 253402300799,
	1<<31 - 1, 1 << 31, 1<<32 - 1, 1 << 32, 1<<32 + 1, math.MaxInt/2 - 1, math.MaxInt / 2, math.MaxInt/2 + 1, math.MaxInt/2 + 2,
	math.MaxInt - 3, math.MaxInt - 2, math.MaxInt - 1, math.MaxInt,
}

func exact(n int) *big.Int { return big.NewInt(int64(n)) }

// limited tells in the chapter's words what a sum becomes: it is limited to 2^63 - 1 and to -2^63.
func limited(sum *big.Int) int {
	high := new(big.Int).Lsh(big.NewInt(1), 63)
	low := new(big.Int).Neg(high)
	high.Sub(high, big.NewInt(1))
	switch {
	case sum.Cmp(high) > 0:
		return math.MaxInt
	case sum.Cmp(low) < 0:
		return math.MinInt
	}
	return int(sum.Int64())
}

func plus(a, b int) int  { return limited(new(big.Int).Add(exact(a), exact(b))) }
func minus(a, b int) int { return limited(new(big.Int).Sub(exact(a), exact(b))) }

// plusEach tells in the chapter's words what the sum of several is: each one after another is limited.
func plusEach(a int, l []int) int {
	for _, n := range l {
		a = plus(a, n)
	}
	return a
}

// anyNumber returns one of numbers, or a random one of a random size.
func anyNumber(r *rand.Rand) int {
	if r.Intn(2) == 0 {
		return numbers[r.Intn(len(numbers))]
	}
	return int(r.Uint64()) >> r.Intn(64)
}

// P11.1: the two ends are those of an int of 64 bits.
func TestConstants(t *testing.T) {
	if span.Begin != math.MinInt64 || span.End != math.MaxInt64 {
		t.Error(span.Begin, span.End)
	}
}

// P11.1: no number, one and two numbers that are added to each number.
func TestAdd(t *testing.T) {
	for _, a := range numbers {
		if got := span.Add(a); got != a {
			t.Error(a, got)
		}
		for _, b := range numbers {
			if got := span.Add(a, b); got != plus(a, b) {
				t.Error(a, b, got)
			}
			for _, c := range numbers {
				if got := span.Add(a, b, c); got != plusEach(a, []int{b, c}) {
					t.Error(a, b, c, got)
				}
			}
		}
	}
}

// P11.1: one after another: what is lost at an end doesn't come back.
func TestAddInTurn(t *testing.T) {
	for _, c := range []struct {
		a    int
		l    []int
		want int
	}{
		{span.End, []int{1, -1}, span.End - 1}, {span.End, []int{-1, 1}, span.End}, {span.Begin, []int{-1, 1}, span.Begin + 1}, {span.Begin, []int{1, -1}, span.Begin},
		{1, []int{span.End, span.Begin}, -1}, {1, []int{span.Begin, span.End}, 0}, {-1, []int{span.Begin, span.End}, -1}, {-1, []int{span.End, span.Begin}, -2},
		{0, []int{span.End, span.End, span.Begin, span.Begin}, span.Begin}, {0, []int{span.End, span.Begin, span.End, span.Begin}, -2},
		{5, []int{span.End, 7, 9, -4, -4}, span.End - 8}, {-5, []int{span.Begin, -7, 9, 0}, span.Begin + 9}, {3, []int{4, -2}, 5}, {7, []int{0, 0, 0}, 7},
	} {
		if got := span.Add(c.a, c.l...); got != c.want {
			t.Error(c.a, c.l, got)
		}
	}
}

// P11.1: random lists, and long ones.
func TestAddLists(t *testing.T) {
	r := rand.New(rand.NewSource(1))
	for range 20000 {
		a, l := anyNumber(r), make([]int, r.Intn(9))
		for i := range l {
			l[i] = anyNumber(r)
		}
		if got, want := span.Add(a, l...), plusEach(a, l); got != want {
			t.Fatal(a, l, got, want)
		}
	}
	for _, n := range []int{0, 1, -1, 1 << 40, -1 << 40, 1 << 62, span.Begin, span.End} {
		l := slices.Repeat([]int{n}, 1<<20)
		if got, want := span.Add(3, l...), limited(new(big.Int).Add(exact(3), new(big.Int).Mul(exact(n), exact(len(l))))); got != want {
			t.Error(n, got, want)
		}
	}
	if got := span.Add(4, nil...); got != 4 {
		t.Error(got)
	}
}

// P11.1: every pair of numbers, and random pairs.
func TestSub(t *testing.T) {
	for _, a := range numbers {
		for _, b := range numbers {
			if got := span.Sub(a, b); got != minus(a, b) {
				t.Error(a, b, got)
			}
		}
	}
	r := rand.New(rand.NewSource(2))
	for range 100000 {
		a, b := anyNumber(r), anyNumber(r)
		if got := span.Sub(a, b); got != minus(a, b) {
			t.Fatal(a, b, got)
		}
	}
	for _, c := range [][3]int{
		{0, span.Begin, span.End}, {-1, span.Begin, span.End}, {-2, span.Begin, span.End - 1}, {span.Begin, span.Begin, 0}, {span.End, span.End, 0},
		{span.Begin, 0, span.Begin}, {span.Begin, 1, span.Begin}, {span.End, -1, span.End}, {-1, span.End, span.Begin}, {-2, span.End, span.Begin}, {0, span.End, span.Begin + 1},
	} {
		if got := span.Sub(c[0], c[1]); got != c[2] {
			t.Error(c, got)
		}
	}
}

// P11.1: each number's opposite, and End for Begin alone.
func TestNeg(t *testing.T) {
	for _, a := range append([]int{5, -5}, numbers...) {
		want := -a
		if a == span.Begin {
			want = span.End
		}
		if got := span.Neg(a); got != want {
			t.Error(a, got)
		}
	}
}

// P11.1: both ends, and each number beside.
func TestEnds(t *testing.T) {
	for _, n := range numbers {
		if got := span.Ends(n); got != (n == math.MinInt || n == math.MaxInt) {
			t.Error(n, got)
		}
	}
	if !span.Ends(span.Begin) || !span.Ends(span.End) || span.Ends(span.Begin+1) || span.Ends(span.End-1) || span.Ends(0) || span.Ends(-1) {
		t.Error("ends")
	}
}
