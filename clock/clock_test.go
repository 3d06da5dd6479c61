package clock_test

import (
	"math"
	"math/rand"
	"testing"
	"time"

	"quittance/api"
	"quittance/clock"
	"quittance/date"
	"quittance/head"
)

// The kinds.
const (
	utc     = 23
	general = 24
)

// The edges of the years.
const (
	firstUtc = -631152000 // 1950-01-01 00:00:00
	lastUtc  = 2524607999 // 2049-12-31 23:59:59
)

// farSeconds have no date; some would have one if they were cut to 32 bits or to 53.
var farSeconds = []int{
	math.MinInt, math.MinInt + 1, math.MinInt + 951868800, -1 << 62, -1<<53 + 1, -1 << 53, -1 << 48, -1 << 40, date.First - 1<<32, date.First - 86400, date.First - 2, date.First - 1,
	date.Last + 1, date.Last + 2, date.Last + 86400, date.Last + 1<<32, 1 << 40, 1 << 48, 1<<53 + 951868800, 1 << 62, math.MaxInt - 951868800, math.MaxInt - 1, math.MaxInt,
}

// noKinds are numbers that are no kind; some would be one if they were cut to 5, 8, 16 or 32 bits.
var noKinds = []int{
	math.MinInt, math.MinInt + utc, -1 << 32, -1<<32 + general, -232, -24, -23, -1, 0, 1, 2, 12, 16, 17, 19, 20, 22, 25, 26, 30,
	32 + utc, 64 + general, 128 + utc, 256 + utc, 256 + general, 1<<16 + utc, 1<<21 + general, 1<<32 + utc, 1<<32 + general, math.MaxInt,
}

// dated returns seconds that have a date: all edges, the ends of each year, and some between.
func dated() []int {
	all := []int{date.First, date.First + 1, -1, 0, 1, 59, 60, 3599, 3600, 86399, 86400, 951868800, 951868799, 1 << 31, 1<<31 - 1, -1 << 31, -1<<31 - 1, 1 << 32, -1 << 32, date.Last - 1, date.Last}
	for y := range 10000 {
		first := int(time.Date(y, 1, 1, 0, 0, 0, 0, time.UTC).Unix())
		next := int(time.Date(y+1, 1, 1, 0, 0, 0, 0, time.UTC).Unix())
		all = append(all, first, next-1)
		if y%13 == 0 || y > 1940 && y < 2060 {
			all = append(all, first+1, next-2, (first+next)/2+y)
		}
	}
	numbers := rand.New(rand.NewSource(10))
	for range 5000 {
		all = append(all, date.First+numbers.Intn(date.Last-date.First+1), firstUtc+numbers.Intn(lastUtc-firstUtc+1))
	}
	return all
}

// yearOf returns the year of a second.
func yearOf(s int) int { return time.Unix(int64(s), 0).UTC().Year() }

// kindOf tells in the chapter's words the kind of a second, 0 if there is none.
func kindOf(s int) int {
	switch {
	case s < date.First || s > date.Last:
		return 0
	case yearOf(s) >= 1950 && yearOf(s) <= 2049:
		return utc
	}
	return general
}

// right tells in the chapter's words what is a time with a second in the years of its kind.
func right(t clock.Time) bool {
	switch {
	case t.Second < date.First || t.Second > date.Last:
		return false
	case t.Kind == utc:
		return yearOf(t.Second) >= 1950 && yearOf(t.Second) <= 2049
	}
	return t.Kind == general
}

// in returns a time.
func in(kind, second int) clock.Time { return clock.Time{Kind: kind, Second: second} }

// P10.1: both kinds and what is no kind with seconds at all edges.
func TestRight(t *testing.T) {
	for _, s := range append(dated(), farSeconds...) {
		for _, kind := range []int{utc, general, 0, 16, -1, 256 + utc} {
			if x := in(kind, s); clock.Right(x) != right(x) {
				t.Fatal(x, !right(x))
			}
		}
	}
	for _, kind := range noKinds {
		for _, s := range append([]int{date.First, firstUtc, 0, 951868800, lastUtc, date.Last}, farSeconds...) {
			if clock.Right(in(kind, s)) {
				t.Error(kind, s)
			}
		}
	}
	for x, want := range map[clock.Time]bool{
		{}: false, in(utc, firstUtc): true, in(utc, firstUtc-1): false, in(utc, lastUtc): true, in(utc, lastUtc+1): false, in(utc, 0): true,
		in(general, firstUtc): true, in(general, firstUtc-1): true, in(general, lastUtc): true, in(general, lastUtc+1): true, in(general, 0): true,
		in(general, date.First): true, in(general, date.First-1): false, in(general, date.Last): true, in(general, date.Last+1): false, in(utc, date.First): false, in(utc, date.Last): false,
	} {
		if clock.Right(x) != want {
			t.Error(x, !want)
		}
	}
}

// P10.1: seconds at all edges, and those without a date.
func TestKind(t *testing.T) {
	for _, s := range append(dated(), farSeconds...) {
		if k := clock.Kind(s); k != kindOf(s) {
			t.Fatal(s, k)
		}
	}
	for s, want := range map[int]int{
		firstUtc: utc, firstUtc - 1: general, lastUtc: utc, lastUtc + 1: general, 0: utc, -1: utc, date.First: general, date.First - 1: 0, date.Last: general, date.Last + 1: 0, math.MinInt: 0, math.MaxInt: 0,
	} {
		if k := clock.Kind(s); k != want {
			t.Error(s, k)
		}
	}
}

// P10.1: a second with its own kind, and with the kind GeneralTime.
func TestOfAndGeneral(t *testing.T) {
	for _, s := range dated() {
		x, e := clock.Of(s)
		y, f := clock.General(s)
		if e != api.OK || f != api.OK || x != in(kindOf(s), s) || y != in(general, s) {
			t.Fatal(s, x, e, y, f)
		}
	}
	for _, s := range farSeconds {
		x, e := clock.Of(s)
		y, f := clock.General(s)
		if e != api.ErrArg || f != api.ErrArg || x != (clock.Time{}) || y != (clock.Time{}) {
			t.Error(s, x, e, y, f)
		}
	}
}

// P10.1, P10.2: the kinds are the numbers of chapter 2.
func TestKindsAreNumbers(t *testing.T) {
	if head.UtcTime != utc || head.GeneralTime != general {
		t.Error(head.UtcTime, head.GeneralTime)
	}
	if x, e := clock.Of(0); e != api.OK || x.Kind != head.UtcTime {
		t.Error(x, e)
	}
	if x, e := clock.General(0); e != api.OK || x.Kind != head.GeneralTime {
		t.Error(x, e)
	}
}
