package date

import (
	"strings"

	"quittance/api"
)

// Clock is a moment.
type Clock struct {
	Date                 Date
	Hour, Minute, Second int
}

// RightClock reports whether c is a moment of a date with a year from 0 to 9999.
func RightClock(c Clock) bool {
	return Right(c.Date) && below(c.Hour, 24) && below(c.Minute, 60) && below(c.Second, 60)
}

// below reports whether n is from 0 up to the bound, which is not one of them.
func below(n, bound int) bool { return 0 <= n && n < bound }

// Second returns the number of seconds from 1970-01-01 00:00:00 to c.
func Second(c Clock) (int, api.Errno) {
	n, e := Number(c.Date)
	if e != api.OK || !RightClock(c) {
		return 0, api.ErrArg
	}
	return n*daySeconds + c.Hour*hourSeconds + c.Minute*minuteSeconds + c.Second, api.OK
}

// At returns the moment of a second from First to Last.
func At(s int) (Clock, api.Errno) {
	if s < First || s > Last {
		return Clock{}, api.ErrArg
	}
	since := s - First                         // not below 0, so that division rounds down
	d, _ := Of(firstNumber + since/daySeconds) // every day from First to Last has its date
	return Clock{
		Date:   d,
		Hour:   since % daySeconds / hourSeconds,
		Minute: since % hourSeconds / minuteSeconds,
		Second: since % minuteSeconds,
	}, api.OK
}

// Text returns the moment of a second in the form 1970-01-01T00:00:00Z.
func Text(s int) (string, api.Errno) {
	c, e := At(s)
	if e != api.OK {
		return "", e
	}
	year := pairs("", c.Date.Year/100, c.Date.Year%100)
	return year + "-" + pairs("-", c.Date.Month, c.Date.Day) + "T" + pairs(":", c.Hour, c.Minute, c.Second) + "Z", api.OK
}

// pairs writes each number, from 0 to 99, in two digits, with the mark between them.
func pairs(mark string, numbers ...int) string {
	var out strings.Builder
	for i, n := range numbers {
		if i > 0 {
			out.WriteString(mark)
		}
		out.WriteByte('0' + byte(n/10))
		out.WriteByte('0' + byte(n%10))
	}
	return out.String()
}
