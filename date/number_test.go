package date_test

import (
	"math"
	"testing"
	"time"

	"quittance/api"
	"quittance/date"
)

// next returns the date after d, in the chapter's words.
func next(d date.Date) date.Date {
	d.Day++
	if d.Day > days(d.Year, d.Month) {
		d.Month, d.Day = d.Month+1, 1
	}
	if d.Month > 12 {
		d.Year, d.Month = d.Year+1, 1
	}
	return d
}

// P9.2: the numbers and the days of the week at the edges that the chapter names, and of the days around them.
func TestNumbers(t *testing.T) {
	for _, c := range []struct {
		d            date.Date
		number, week int
	}{
		{on(0, 1, 1), -719528, 6}, {on(0, 1, 2), -719527, 0}, {on(0, 2, 28), -719470, 1}, {on(0, 2, 29), -719469, 2}, {on(0, 3, 1), -719468, 3}, {on(0, 12, 31), -719163, 0}, {on(1, 1, 1), -719162, 1},
		{on(1900, 2, 28), -25509, 3}, {on(1900, 3, 1), -25508, 4}, {on(1969, 12, 30), -2, 2}, {on(1969, 12, 31), -1, 3}, {on(1970, 1, 1), 0, 4}, {on(1970, 1, 2), 1, 5},
		{on(1970, 1, 4), 3, 0}, {on(1969, 12, 28), -4, 0}, {on(1969, 12, 27), -5, 6}, {on(1999, 12, 31), 10956, 5}, {on(2000, 1, 1), 10957, 6},
		{on(2000, 2, 28), 11015, 1}, {on(2000, 2, 29), 11016, 2}, {on(2000, 3, 1), 11017, 3}, {on(2026, 11, 15), 20772, 0}, {on(9999, 12, 30), 2932895, 4}, {on(9999, 12, 31), 2932896, 5},
	} {
		n, e := date.Number(c.d)
		w, f := date.Weekday(c.d)
		d, g := date.Of(c.number)
		if e != api.OK || f != api.OK || g != api.OK || n != c.number || w != c.week || d != c.d {
			t.Error(c.d, n, e, w, f, d, g)
		}
	}
}

// P9.2: what is no date has neither a number nor a day of the week.
func TestNumberOfNoDate(t *testing.T) {
	for _, d := range noDates() {
		if n, e := date.Number(d); e != api.ErrArg || n != 0 {
			t.Error(d, n, e)
		}
		if w, e := date.Weekday(d); e != api.ErrArg || w != 0 {
			t.Error(d, w, e)
		}
	}
}

// P9.2: a number has a date from the first to the last one alone.
func TestOfNoNumber(t *testing.T) {
	numbers := []int{
		firstNumber - 1, firstNumber - 2, firstNumber - 146097, lastNumber + 1, lastNumber + 2, lastNumber + 146097, -1 << 31, 1 << 31, -1 << 32, 1 << 32, 1<<32 + 1,
		date.First, date.Last, math.MinInt, math.MinInt + 1, math.MinInt - firstNumber, math.MaxInt + firstNumber, math.MaxInt - 1, math.MaxInt,
	}
	for _, n := range numbers {
		if d, e := date.Of(n); e != api.ErrArg || d != (date.Date{}) {
			t.Error(n, d, e)
		}
	}
}

// P9.2, P9.4, P9.5: every date in turn: its number there and back, its day of the week and its order.
func TestEveryDate(t *testing.T) {
	d, week := on(0, 1, 1), 6
	for n := firstNumber; n <= lastNumber; n++ {
		k, e := date.Number(d)
		w, f := date.Weekday(d)
		back, g := date.Of(n)
		if e != api.OK || f != api.OK || g != api.OK || k != n || w != week || back != d || !date.Right(d) {
			t.Fatal(d, k, e, w, f, back, g)
		}
		after := next(d)
		if date.Compare(d, after) != -1 || date.Compare(after, d) != 1 || date.Compare(d, back) != 0 {
			t.Fatal(d, after)
		}
		d, week = after, (week+1)%7
	}
	if d != on(10000, 1, 1) {
		t.Error(d)
	}
}

// P9.2: numbers and days of the week against the library's calendar.
func TestAgainstLibrary(t *testing.T) {
	for n := firstNumber; n <= lastNumber; n += 17 {
		x := time.Unix(int64(n)*86400, 0).UTC()
		want := on(x.Year(), int(x.Month()), x.Day())
		d, e := date.Of(n)
		w, f := date.Weekday(want)
		if e != api.OK || f != api.OK || d != want || w != int(x.Weekday()) {
			t.Fatal(n, d, e, w, f)
		}
	}
}
