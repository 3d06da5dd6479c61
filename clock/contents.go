package clock

import (
	"quittance/api"
	"quittance/date"
	"quittance/head"
)

const (
	century = 100
	utc     = 'Z' // stands at the end of each contents
)

// Contents returns the contents of t.
func Contents(t Time) ([]byte, api.Errno) {
	if !Right(t) {
		return nil, api.ErrArg
	}
	c, _ := date.At(t.Second) // what is Right has a moment
	var out []byte
	if t.Kind == head.GeneralTime {
		out = pairs(out, c.Date.Year/century)
	}
	out = pairs(out, c.Date.Year%century, c.Date.Month, c.Date.Day, c.Hour, c.Minute, c.Second)
	return append(out, utc), api.OK
}

// pairs appends each number, from 0 to 99, in two digits.
func pairs(out []byte, numbers ...int) []byte {
	for _, n := range numbers {
		out = append(out, '0'+byte(n/10), '0'+byte(n%10))
	}
	return out
}

// Parse returns the time of that kind whose contents are b.
func Parse(kind int, b []byte) (Time, api.Errno) {
	if !isKind(kind) {
		return Time{}, api.ErrArg
	}
	r := reader{figures: b}
	year := r.year(kind)
	c := date.Clock{
		Date:   date.Date{Year: year, Month: r.next(), Day: r.next()},
		Hour:   r.next(),
		Minute: r.next(),
		Second: r.next(),
	}
	s, e := date.Second(c)
	if e != api.OK || !r.done() {
		return Time{}, api.ErrForm
	}
	return Time{Kind: kind, Second: s}, api.OK
}

// figures are bytes that should be digits.
type figures []byte

// pair returns the number that the two digits from the index at on make, and whether they are there.
func (f figures) pair(at int) (int, bool) {
	if at+2 > len(f) || !isDigit(f[at]) || !isDigit(f[at+1]) {
		return 0, false
	}
	return 10*int(f[at]-'0') + int(f[at+1]-'0'), true
}

// isLast reports whether x is at that index, and nothing after it.
func (f figures) isLast(at int, x byte) bool { return at+1 == len(f) && f[at] == x }

func isDigit(x byte) bool { return '0' <= x && x <= '9' }

// reader takes two digits at a time. It remembers until the end that some were not there, so that no step need ask.
type reader struct {
	figures
	at     int
	failed bool
}

// next returns the number that the next two digits make.
func (r *reader) next() int {
	n, ok := r.pair(r.at)
	r.at += 2
	r.failed = r.failed || !ok
	return n
}

// year returns the year in its digits of that kind.
func (r *reader) year(kind int) int {
	n := r.next()
	if kind == head.GeneralTime {
		return century*n + r.next()
	}
	n += firstUtcYear / century * century
	if n < firstUtcYear {
		n += century
	}
	return n
}

// done reports whether all digits were there, and are followed by the end.
func (r *reader) done() bool { return !r.failed && r.isLast(r.at, utc) }
