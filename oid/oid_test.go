package oid_test

import (
	"bytes"
	"math"
	"slices"
	"testing"

	"quittance/api"
	"quittance/octet"
	"quittance/oid"
)

const top = 1<<31 - 1 // the greatest number

// numbers are those around every change of the count of digits, in base 128 and in decimal.
var numbers = []int{
	0, 1, 2, 9, 10, 38, 39, 40, 41, 79, 80, 99, 100, 126, 127, 128, 129, 255, 256, 999, 1000, 16255, 16256, 16383, 16384, 16385,
	99999, 100000, 2097151, 2097152, 2097153, 268435455, 268435456, 268435457, 999999999, 1000000000, top - 1, top,
}

// wrongNumbers are no numbers of an oid.
var wrongNumbers = []int{math.MinInt, math.MinInt + 1, -1 << 32, -1 << 31, -2, -1, top + 1, top + 2, 1<<32 - 1, 1 << 32, 1 << 40, math.MaxInt - 1, math.MaxInt}

// raw returns the bytes of a hex text.
func raw(t *testing.T, hex string) []byte {
	t.Helper()
	b, e := octet.Unhex(hex)
	if e != api.OK {
		t.Fatal(hex, e)
	}
	return b
}

// long returns an oid of that many numbers, the last ones of five digits.
func long(count int) []int {
	o := []int{2, 5}
	for len(o) < count {
		o = append(o, top-len(o))
	}
	return o[:count]
}

// oids returns oids with all first numbers, with second numbers up to their limit, and of all lengths.
func oids() [][]int {
	var all [][]int
	for _, first := range []int{0, 1, 2} {
		for _, second := range numbers {
			if first < 2 && second > 39 || second > top-80 {
				continue
			}
			all = append(all, []int{first, second})
			for _, n := range numbers {
				all = append(all, []int{first, second, n}, []int{first, second, n, 0}, []int{first, second, 1, n, n})
			}
		}
	}
	for _, second := range []int{47, 48, 49, 999, 16303, 16304, 268435375, 268435376, top - 81, top - 80} {
		all = append(all, []int{2, second}, []int{2, second, 7})
	}
	for count := 2; count <= api.MaxArcs; count++ {
		all = append(all, long(count), append([]int{1, 2}, make([]int, count-2)...))
	}
	return all
}

// wrongOids returns lists that are not oids: each is wrong in one thing alone, but for the last ones.
func wrongOids() [][]int {
	all := [][]int{
		nil, {}, {0}, {1}, {2}, {3}, {39}, {-1},
		{0, 40}, {0, 41}, {0, 47}, {0, 127}, {0, 128}, {0, top}, {1, 40}, {1, 41}, {1, 87}, {1, top}, {1, 40, 1}, {0, 40, 1},
		{2, top - 79}, {2, top - 78}, {2, top}, {2, top - 79, 5},
		{3, 0}, {3, 1}, {3, 39}, {4, 0}, {40, 0}, {top, 0}, {top, top}, {3, 1, 1},
		append(long(32), 0), append(long(32), 0, 0), append([]int{1, 2}, make([]int, 31)...), append([]int{1, 2}, make([]int, 100000)...),
	}
	for _, n := range wrongNumbers {
		all = append(all, []int{n}, []int{n, 0}, []int{0, n}, []int{1, n}, []int{2, n}, []int{2, 5, n}, []int{2, 5, n, 1}, []int{1, 2, 3, 4, n}, append(long(31), n), append(long(32), n), []int{n, n, n})
	}
	return all
}

// P4.1
func TestRight(t *testing.T) {
	for _, o := range oids() {
		if !oid.Right(o) {
			t.Error("not right", o)
		}
	}
	for _, o := range wrongOids() {
		if oid.Right(o) {
			t.Error("right", o)
		}
	}
}

// P4.1: behind each first number, the second numbers around every limit.
func TestRightSecondNumber(t *testing.T) {
	for first := -1; first <= 4; first++ {
		for _, second := range []int{-1, 0, 39, 40, 47, 48, top - 81, top - 80, top - 79, top - 41, top - 40, top, top + 1} {
			want := first >= 0 && first <= 1 && second >= 0 && second <= 39 || first == 2 && second >= 0 && second <= 1<<31-81
			for _, o := range [][]int{{first, second}, {first, second, 0}, {first, second, top}} {
				if oid.Right(o) != want {
					t.Error(o, !want)
				}
			}
		}
	}
}

// order returns how a and b compare, from their first difference.
func order(a, b []int) int {
	for i := range a {
		switch {
		case i == len(b) || a[i] > b[i]:
			return 1
		case a[i] < b[i]:
			return -1
		}
	}
	if len(a) < len(b) {
		return -1
	}
	return 0
}

// P4.5
func TestCompare(t *testing.T) {
	for _, x := range []struct {
		a, b []int
		want int
	}{
		{nil, nil, 0}, {nil, []int{}, 0}, {[]int{}, nil, 0}, {nil, []int{0}, -1}, {[]int{-1}, nil, 1},
		{[]int{2, 5}, []int{2, 5}, 0}, {[]int{2, 5}, []int{2, 5, 1}, -1}, {[]int{2, 5}, []int{2, 5, 0}, -1}, {[]int{2, 5, 0}, []int{2, 5}, 1},
		{[]int{2, 5, 9}, []int{2, 6}, -1}, {[]int{2, 6}, []int{2, 5, 9}, 1}, {[]int{2, 5, 9}, []int{2, 5, 10}, -1}, {[]int{2, 5, 128}, []int{2, 5, 127, 9}, 1},
		{[]int{1, 39, 5}, []int{2, 0}, -1}, {[]int{1, 2, 3, 4}, []int{1, 2, 4, 3}, -1}, {[]int{1, 2, 4, 3}, []int{1, 2, 3, 4}, 1},
		{[]int{math.MinInt}, []int{math.MaxInt}, -1}, {[]int{math.MaxInt}, []int{math.MinInt}, 1}, {[]int{-2}, []int{-1}, -1}, {[]int{-1}, []int{1}, -1}, {[]int{1}, []int{-1, 5}, 1},
		{[]int{1 << 32}, []int{0}, 1}, {[]int{0}, []int{1 << 40}, -1},
	} {
		if got := oid.Compare(x.a, x.b); got != x.want {
			t.Error(x.a, x.b, got)
		}
	}
}

// P4.5: lists of all kinds against each other, and lists that are no oids.
func TestCompareAll(t *testing.T) {
	all := append(wrongOids(), [][]int{{2, 5}, {2, 5, 29}, {2, 5, 29, 20}, {2, 5, 29, 21}, {2, 5, 30}, {1, 2, 840}, long(31), long(32), {1, 2, 0}, {2, 999}}...)
	for _, a := range all {
		for _, b := range all {
			if got := oid.Compare(a, b); got != order(a, b) {
				t.Error(a, b, got)
			}
		}
	}
}

// P4.5
func TestUnder(t *testing.T) {
	for _, x := range []struct {
		o, front []int
		want     bool
	}{
		{[]int{2, 5, 29, 20}, nil, true}, {[]int{2, 5, 29, 20}, []int{}, true}, {[]int{2, 5, 29, 20}, []int{2}, true}, {[]int{2, 5, 29, 20}, []int{2, 5, 29}, true},
		{[]int{2, 5, 29, 20}, []int{2, 5, 29, 20}, true}, {[]int{2, 5, 29, 20}, []int{2, 5, 29, 20, 0}, false}, {[]int{2, 5, 29, 20}, []int{2, 5, 29, 20, 20}, false},
		{[]int{2, 5, 29, 20}, []int{2, 5, 28}, false}, {[]int{2, 5, 29, 20}, []int{2, 5, 29, 21}, false}, {[]int{2, 5, 29, 20}, []int{1, 5, 29, 20}, false}, {[]int{2, 5, 29, 20}, []int{2, 5, 29, 2}, false},
		{[]int{2, 5, 29, 20}, []int{5, 29}, false}, {[]int{2, 5, 29, 20}, []int{29, 20}, false}, {[]int{2, 5}, []int{2, 5, 29}, false},
		{nil, nil, true}, {nil, []int{}, true}, {[]int{}, nil, true}, {nil, []int{0}, false}, {[]int{0}, []int{0}, true}, {[]int{0}, []int{0, 0}, false},
		{[]int{-1, math.MaxInt}, []int{-1}, true}, {[]int{-1, math.MaxInt}, []int{-1, math.MaxInt}, true}, {[]int{1 << 32}, []int{0}, false}, {[]int{9}, nil, true},
	} {
		if got := oid.Under(x.o, x.front...); got != x.want {
			t.Error(x.o, x.front, got)
		}
	}
	if !oid.Under([]int{1, 2, 3}) || !oid.Under(nil) || !oid.Under([]int{1, 2, 3}, 1, 2) || oid.Under([]int{1, 2, 3}, 1, 3) {
		t.Error("numbers one by one")
	}
	for count := range 33 {
		if !oid.Under(long(32), long(32)[:count]...) || count < 32 && oid.Under(long(32)[:count], long(32)...) {
			t.Error(count)
		}
	}
}

// spoil writes over a list, up to its capacity.
func spoil[T byte | int](l []T) {
	l = l[:cap(l)]
	for i := range l {
		l[i] = ^l[i]
	}
}

// roomy returns a piece of a longer memory that holds l, and that memory.
func roomy[T byte | int](l []T) (piece, all []T) {
	all = append(append([]T{77, 77}, l...), 88, 88, 88)
	return all[2 : 2+len(l)], all
}

// P4.6: neither a call nor a write into its result reaches an argument, nor the memory behind it.
func TestArgumentsStay(t *testing.T) {
	for _, list := range append(wrongOids(), []int{2, 5}, []int{2, 5, 29, 20}, []int{1, 2, 840, 113549}, long(31), long(32)) {
		o, all := roomy(list)
		front, rest := roomy([]int{2, 5})
		kept, keptRest := slices.Clone(all), slices.Clone(rest)
		oid.Right(o)
		oid.Text(o)
		oid.Compare(o, front)
		oid.Compare(front, o)
		oid.Under(o, front...)
		b, _ := oid.Contents(o)
		spoil(b)
		b, _ = oid.Write(o)
		spoil(b)
		spoil(oid.Must(o...))
		if !slices.Equal(all, kept) || !slices.Equal(rest, keptRest) {
			t.Error(list, "now", all, rest)
		}
	}
	for _, hex := range []string{"", "80", "2a", "2a86", "2a8648", "2a864886f70d", "551d14", "8837", "8880808000"} {
		b, all := roomy(raw(t, hex))
		kept := bytes.Clone(all)
		o, _ := oid.Parse(b)
		spoil(o)
		if !bytes.Equal(all, kept) {
			t.Errorf("%s now %x", hex, all)
		}
	}
}

// P4.6: a result stays as it is, whatever happens to the argument, to the cursor or to another result.
func TestResultsAreNew(t *testing.T) {
	want := []int{1, 2, 840, 113549}
	for range 2 {
		o := slices.Clone(want)
		contents, _ := oid.Contents(o)
		element, _ := oid.Write(o)
		must := oid.Must(o...)
		spoil(o)
		if octet.Hex(contents) != "2a864886f70d" || octet.Hex(element) != "06062a864886f70d" || octet.Hex(must) != "06062a864886f70d" {
			t.Errorf("%x %x %x", contents, element, must)
		}
		in := bytes.Clone(contents)
		parsed, _ := oid.Parse(in)
		other, _ := oid.Parse(in)
		spoil(in)
		spoil(other)
		fromText, _ := oid.FromText("1.2.840.113549")
		c := octet.New(element)
		first, _ := oid.Read(c)
		c.Back(0)
		second, _ := oid.Read(c)
		spoil(first)
		c.Back(0)
		third, _ := oid.Read(c)
		for _, got := range [][]int{parsed, fromText, second, third} {
			if !slices.Equal(got, want) {
				t.Error(got)
			}
		}
		for _, b := range [][]byte{contents, element, must} {
			spoil(b)
		}
		spoil(fromText)
	}
}
