package date_test

import (
	"fmt"
	"math"
	"math/rand"
	"testing"
	"time"

	"quittance/api"
	"quittance/date"
)

// at returns a moment.
func at(d date.Date, hour, minute, second int) date.Clock {
	return date.Clock{Date: d, Hour: hour, Minute: minute, Second: second}
}

// rightClock tells in the chapter's words what is a moment.
func rightClock(c date.Clock) bool {
	return right(c.Date) && c.Hour >= 0 && c.Hour <= 23 && c.Minute >= 0 && c.Minute <= 59 && c.Second >= 0 && c.Second <= 59
}

// check holds a second and its moment against each other in every call.
func check(t *testing.T, s int, c date.Clock) {
	t.Helper()
	want := fmt.Sprintf("%04d-%02d-%02dT%02d:%02d:%02dZ", c.Date.Year, c.Date.Month, c.Date.Day, c.Hour, c.Minute, c.Second)
	k, e := date.Second(c)
	m, f := date.At(s)
	x, g := date.Text(s)
	if e != api.OK || f != api.OK || g != api.OK || k != s || m != c || x != want || !date.RightClock(c) {
		t.Fatal(s, c, k, e, m, f, x, g)
	}
}

// checkNone asserts that a number is no second of a moment.
func checkNone(t *testing.T, s int) {
	t.Helper()
	c, e := date.At(s)
	x, f := date.Text(s)
	if e != api.ErrArg || f != api.ErrArg || c != (date.Clock{}) || x != "" {
		t.Error(s, c, e, x, f)
	}
}

// P9.1, P9.3: hours, minutes and seconds at both edges and beyond them.
func TestRightClock(t *testing.T) {
	for _, d := range []date.Date{on(0, 1, 1), on(1970, 1, 1), on(2000, 2, 29), on(9999, 12, 31), on(1900, 2, 29), on(-1, 12, 31), on(10000, 1, 1), {}} {
		for _, hour := range append([]int{0, 1, 12, 22, 23, 24, 25, 59, 60}, wrong...) {
			for _, minute := range append([]int{0, 1, 58, 59, 60, 61}, wrong...) {
				for _, second := range append([]int{0, 1, 58, 59, 60, 61}, wrong...) {
					checkClock(t, at(d, hour, minute, second))
				}
			}
		}
	}
	for _, d := range noDates() {
		checkClock(t, at(d, 0, 0, 0))
		checkClock(t, at(d, 23, 59, 59))
	}
}

// checkClock holds RightClock and Second against the chapter's words.
func checkClock(t *testing.T, c date.Clock) {
	t.Helper()
	if date.RightClock(c) != rightClock(c) {
		t.Fatal(c, !rightClock(c))
	}
	s, e := date.Second(c)
	if !rightClock(c) {
		if e != api.ErrArg || s != 0 {
			t.Fatal(c, s, e)
		}
		return
	}
	want := time.Date(c.Date.Year, time.Month(c.Date.Month), c.Date.Day, c.Hour, c.Minute, c.Second, 0, time.UTC).Unix()
	if e != api.OK || s != int(want) {
		t.Fatal(c, s, e)
	}
}

// P9.3: the first and the last second, and the ends of minutes, hours, days, months and years, also below 0.
func TestSeconds(t *testing.T) {
	for _, c := range []struct {
		s int
		c date.Clock
	}{
		{date.First, at(on(0, 1, 1), 0, 0, 0)}, {date.First + 1, at(on(0, 1, 1), 0, 0, 1)}, {date.Last - 1, at(on(9999, 12, 31), 23, 59, 58)}, {date.Last, at(on(9999, 12, 31), 23, 59, 59)},
		{0, at(on(1970, 1, 1), 0, 0, 0)}, {-1, at(on(1969, 12, 31), 23, 59, 59)}, {-60, at(on(1969, 12, 31), 23, 59, 0)}, {-61, at(on(1969, 12, 31), 23, 58, 59)},
		{-3600, at(on(1969, 12, 31), 23, 0, 0)}, {-3601, at(on(1969, 12, 31), 22, 59, 59)}, {-86400, at(on(1969, 12, 31), 0, 0, 0)}, {-86401, at(on(1969, 12, 30), 23, 59, 59)},
		{59, at(on(1970, 1, 1), 0, 0, 59)}, {60, at(on(1970, 1, 1), 0, 1, 0)}, {3599, at(on(1970, 1, 1), 0, 59, 59)}, {3600, at(on(1970, 1, 1), 1, 0, 0)},
		{86399, at(on(1970, 1, 1), 23, 59, 59)}, {86400, at(on(1970, 1, 2), 0, 0, 0)}, {31*86400 - 1, at(on(1970, 1, 31), 23, 59, 59)}, {31 * 86400, at(on(1970, 2, 1), 0, 0, 0)},
		{365*86400 - 1, at(on(1970, 12, 31), 23, 59, 59)}, {365 * 86400, at(on(1971, 1, 1), 0, 0, 0)}, {951868799, at(on(2000, 2, 29), 23, 59, 59)}, {951868800, at(on(2000, 3, 1), 0, 0, 0)},
		{-1 << 31, at(on(1901, 12, 13), 20, 45, 52)}, {1<<31 - 1, at(on(2038, 1, 19), 3, 14, 7)}, {1 << 31, at(on(2038, 1, 19), 3, 14, 8)}, {1 << 32, at(on(2106, 2, 7), 6, 28, 16)},
	} {
		check(t, c.s, c.c)
	}
}

// P9.3: what is beyond the first or the last second.
func TestNoSeconds(t *testing.T) {
	for _, s := range []int{
		date.First - 1, date.First - 2, date.First - 60, date.First - 86400, date.Last + 1, date.Last + 2, date.Last + 60, date.Last + 86400, 1 << 40, -1 << 40,
		math.MinInt, math.MinInt + 1, math.MinInt - date.First, math.MinInt - date.First - 1, math.MaxInt + date.First, math.MaxInt + date.First + 1, math.MaxInt - 1, math.MaxInt,
	} {
		checkNone(t, s)
	}
}

// P9.3: the first and the last second of every month of the calendar, and those around them.
func TestEveryMonth(t *testing.T) {
	n := firstNumber
	for y := 0; y <= 9999; y++ {
		for m := 1; m <= 12; m++ {
			check(t, n*86400, at(on(y, m, 1), 0, 0, 0))
			check(t, n*86400+1, at(on(y, m, 1), 0, 0, 1))
			n += days(y, m)
			check(t, n*86400-1, at(on(y, m, days(y, m)), 23, 59, 59))
		}
	}
	if n != lastNumber+1 {
		t.Error(n)
	}
}

// P9.3: every second of the days around 1970 and at both ends of the calendar.
func TestEverySecondOfSomeDays(t *testing.T) {
	for _, d := range []date.Date{on(0, 1, 1), on(1969, 12, 31), on(1970, 1, 1), on(9999, 12, 31)} {
		n, e := date.Number(d)
		if e != api.OK {
			t.Fatal(d, e)
		}
		s := n * 86400
		for hour := range 24 {
			for minute := range 60 {
				for second := range 60 {
					check(t, s, at(d, hour, minute, second))
					s++
				}
			}
		}
	}
}

// P9.3: random seconds against the library's calendar.
func TestSecondsAgainstLibrary(t *testing.T) {
	r := rand.New(rand.NewSource(93))
	for range 100000 {
		s := date.First + r.Intn(date.Last-date.First+1)
		x := time.Unix(int64(s), 0).UTC()
		check(t, s, at(on(x.Year(), int(x.Month()), x.Day()), x.Hour(), x.Minute(), x.Second()))
		if text, e := date.Text(s); e != api.OK || text != x.Format("2006-01-02T15:04:05Z") {
			t.Fatal(s, text, e)
		}
	}
}

// P9.3: each number of a text has its leading zeros.
func TestText(t *testing.T) {
	for want, c := range map[string]date.Clock{
		"0000-01-01T00:00:00Z": at(on(0, 1, 1), 0, 0, 0), "0001-02-03T04:05:06Z": at(on(1, 2, 3), 4, 5, 6), "0009-09-09T09:09:09Z": at(on(9, 9, 9), 9, 9, 9),
		"0010-10-10T10:10:10Z": at(on(10, 10, 10), 10, 10, 10), "0099-11-30T19:59:01Z": at(on(99, 11, 30), 19, 59, 1), "0100-12-31T23:00:59Z": at(on(100, 12, 31), 23, 0, 59),
		"0987-06-05T04:32:10Z": at(on(987, 6, 5), 4, 32, 10), "1005-01-20T20:02:00Z": at(on(1005, 1, 20), 20, 2, 0), "9999-12-31T23:59:59Z": at(on(9999, 12, 31), 23, 59, 59),
	} {
		s, e := date.Second(c)
		x, f := date.Text(s)
		if e != api.OK || f != api.OK || x != want {
			t.Error(c, s, e, x, f)
		}
	}
}
