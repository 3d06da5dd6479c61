package date_test

import (
	"math"
	"math/big"
	"slices"
	"testing"
	"time"

	"quittance/api"
	"quittance/date"
)

// The numbers of the first and of the last date.
const (
	firstNumber = -719528
	lastNumber  = 2932896
)

// lengths are the days of the months of a year that is not long.
var lengths = []int{31, 28, 31, 30, 31, 30, 31, 31, 30, 31, 30, 31}

// wrong are no year, month, day, hour, minute or second; some would be one if they were cut to 8, 16 or 32 bits.
var wrong = []int{
	math.MinInt, math.MinInt + 1, -1<<32 - 1, -1 << 32, -1<<32 + 1, -1<<32 + 2, -1 << 31, -65535, -256, -255, -2, -1,
	1<<16 + 1, 1<<16 + 2, 1<<16 + 1970, 1 << 31, 1 << 32, 1<<32 + 1, 1<<32 + 2, 1<<32 + 28, 1<<32 + 2000, math.MaxInt - 1, math.MaxInt,
}

// years are those around each rule of the chapter, from below 0 to above 9999.
var years = []int{
	-10000, -400, -100, -4, -2, -1, 0, 1, 2, 3, 4, 5, 8, 96, 99, 100, 101, 200, 300, 399, 400, 401, 404, 1600, 1700, 1800, 1896, 1899, 1900, 1901, 1904,
	1969, 1970, 1971, 1972, 1999, 2000, 2001, 2004, 2023, 2024, 2100, 2400, 9600, 9900, 9996, 9998, 9999, 10000, 10001, 10004, 10400,
}

// on returns a date.
func on(year, month, day int) date.Date { return date.Date{Year: year, Month: month, Day: day} }

// multiple reports whether a number is a multiple of n.
func multiple(number int, n int64) bool {
	return new(big.Int).Mod(big.NewInt(int64(number)), big.NewInt(n)).Sign() == 0
}

// long tells in the chapter's words whether a year is long.
func long(year int) bool {
	return multiple(year, 4) && !multiple(year, 100) || multiple(year, 400)
}

// days tells in the chapter's words how many days a month has.
func days(year, month int) int {
	switch {
	case month < 1 || month > 12:
		return 0
	case month == 2 && long(year):
		return 29
	}
	return lengths[month-1]
}

// right tells in the chapter's words what is a date.
func right(d date.Date) bool {
	return d.Year >= 0 && d.Year <= 9999 && d.Month >= 1 && d.Month <= 12 && d.Day >= 1 && d.Day <= days(d.Year, d.Month)
}

// around returns the numbers from low to high, and those that are always wrong.
func around(low, high int) []int {
	var out []int
	for n := low; n <= high; n++ {
		out = append(out, n)
	}
	return append(out, wrong...)
}

// noDates returns what is no date, wrong in one place, in two or in each.
func noDates() []date.Date {
	all := []date.Date{
		{}, on(0, 0, 0), on(2000, 0, 1), on(2000, 13, 1), on(2000, 1, 0), on(2000, 1, 32), on(2000, 2, 30), on(2001, 2, 29), on(1900, 2, 29), on(100, 2, 29),
		on(0, 2, 30), on(2000, 4, 31), on(2000, 6, 31), on(2000, 9, 31), on(2000, 11, 31), on(2000, 12, 32), on(-1, 12, 31), on(-4, 2, 29), on(-400, 1, 1),
		on(10000, 1, 1), on(10400, 2, 29), on(1, 1970, 1), on(1, 1, 1970), on(2000, -1, 1), on(2000, 1, -1),
	}
	for _, n := range wrong {
		all = append(all, on(n, 1, 1), on(n, 2, 29), on(2000, n, 1), on(2000, 1, n), on(2000, 2, n), on(n, n, 1), on(2000, n, n), on(n, n, n))
	}
	return all
}

// P9.1: every year from far below 0 to far above 9999, and the greatest and the least.
func TestLong(t *testing.T) {
	for _, y := range around(-12000, 12000) {
		if got := date.Long(y); got != long(y) {
			t.Error(y, got)
		}
	}
	for y := -12000; y <= 12000; y++ {
		if got, want := date.Long(y), time.Date(y, 3, 0, 0, 0, 0, 0, time.UTC).Day() == 29; got != want {
			t.Error(y, got)
		}
	}
	for y, want := range map[int]bool{0: true, 4: true, -4: true, -100: false, -400: true, 100: false, 400: true, 1900: false, 2000: true, 2023: false, 2024: true, 9999: false, 10000: true, 10100: false, -1: false, math.MinInt: true, math.MaxInt: false} {
		if got := date.Long(y); got != want {
			t.Error(y, got)
		}
	}
}

// P9.1: every month of the years around each rule, and what is no month.
func TestDays(t *testing.T) {
	for _, y := range append(slices.Clone(years), wrong...) {
		for _, m := range around(-2, 15) {
			if got := date.Days(y, m); got != days(y, m) {
				t.Error(y, m, got)
			}
		}
	}
	for y := -1000; y <= 11000; y++ {
		for m := 1; m <= 12; m++ {
			if got, want := date.Days(y, m), time.Date(y, time.Month(m+1), 0, 0, 0, 0, 0, time.UTC).Day(); got != want {
				t.Error(y, m, got)
			}
		}
	}
}

// P9.1: each year with each month and each day, at both edges and beyond them.
func TestRight(t *testing.T) {
	for _, y := range append(slices.Clone(years), wrong...) {
		for _, m := range around(-1, 14) {
			for _, day := range around(-1, 33) {
				if d := on(y, m, day); date.Right(d) != right(d) {
					t.Error(d, !right(d))
				}
			}
		}
	}
	for _, d := range noDates() {
		if date.Right(d) {
			t.Error(d)
		}
	}
}

// P9.4: what differs in one place alone, what differs in several, and what is no date.
func TestCompare(t *testing.T) {
	for _, c := range []struct {
		a, b date.Date
		want int
	}{
		{on(1999, 5, 5), on(2000, 5, 5), -1}, {on(2000, 4, 5), on(2000, 5, 5), -1}, {on(2000, 5, 4), on(2000, 5, 5), -1}, {on(2000, 5, 5), on(2000, 5, 5), 0},
		{on(1999, 12, 31), on(2000, 1, 1), -1}, {on(2000, 1, 31), on(2000, 2, 1), -1}, {on(1999, 1, 31), on(2000, 1, 1), -1}, {on(1999, 12, 1), on(2000, 1, 1), -1},
		{on(1, 2, 3), on(1, 3, 0), -1}, {on(0, 0, 0), on(0, 0, 0), 0}, {on(-1, 99, 99), on(0, 0, 0), -1}, {on(2000, 2, 30), on(2000, 3, 1), -1}, {on(2000, 13, 1), on(2001, 1, 1), -1},
		{on(math.MinInt, 1, 1), on(math.MaxInt, 1, 1), -1}, {on(1, math.MinInt, 1), on(1, math.MaxInt, 1), -1}, {on(1, 1, math.MinInt), on(1, 1, math.MaxInt), -1},
		{on(math.MinInt, math.MaxInt, math.MaxInt), on(math.MaxInt, math.MinInt, math.MinInt), -1}, {on(math.MaxInt, math.MinInt, math.MinInt), on(math.MaxInt, math.MinInt, math.MinInt), 0},
	} {
		if got := date.Compare(c.a, c.b); got != c.want {
			t.Error(c.a, c.b, got)
		}
		if got := date.Compare(c.b, c.a); got != -c.want {
			t.Error(c.b, c.a, got)
		}
	}
}

// P9.4: every pair of dates made of a few numbers.
func TestCompareEveryPair(t *testing.T) {
	some := []int{math.MinInt, math.MinInt + 1, -1 << 32, -1, 0, 1, 2, 1 << 32, math.MaxInt - 1, math.MaxInt}
	var all [][]int
	for _, y := range some {
		for _, m := range some {
			for _, d := range some {
				all = append(all, []int{y, m, d})
			}
		}
	}
	for _, a := range all {
		for _, b := range all {
			if got := date.Compare(on(a[0], a[1], a[2]), on(b[0], b[1], b[2])); got != slices.Compare(a, b) {
				t.Fatal(a, b, got)
			}
		}
	}
}

// P9.1, P9.2, P9.3: the constants, and the chapter's examples.
func TestExamples(t *testing.T) {
	if date.First != firstNumber*86400 || date.Last != lastNumber*86400+86399 {
		t.Error(date.First, date.Last)
	}
	for d, want := range map[date.Date]int{on(2000, 3, 1): 11017, on(0, 1, 1): -719528, on(9999, 12, 31): 2932896, on(1970, 1, 1): 0} {
		if n, e := date.Number(d); e != api.OK || n != want {
			t.Error(d, n, e)
		}
	}
	if w, e := date.Weekday(on(1970, 1, 1)); e != api.OK || w != 4 {
		t.Error(w, e)
	}
	for s, want := range map[int]string{951868800: "2000-03-01T00:00:00Z", 0: "1970-01-01T00:00:00Z"} {
		if x, e := date.Text(s); e != api.OK || x != want {
			t.Error(s, x, e)
		}
	}
}
