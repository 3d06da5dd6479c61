package clock_test

import (
	"bytes"
	"fmt"
	"slices"
	"strings"
	"testing"
	"time"

	"quittance/api"
	"quittance/clock"
	"quittance/date"
)

const layout = "20060102150405Z"

// told tells the contents of a time with the library's calendar.
func told(x clock.Time) string {
	s := time.Unix(int64(x.Second), 0).UTC().Format(layout)
	if x.Kind == utc {
		return s[2:]
	}
	return s
}

// meant tells in the chapter's words which time of a kind has the contents s, and whether there is one.
func meant(kind int, s string) (clock.Time, bool) {
	full := s
	if kind == utc && s >= "50" {
		full = "19" + s
	} else if kind == utc {
		full = "20" + s
	}
	x, err := time.Parse(layout, full)
	if err != nil || x.Format(layout) != full {
		return clock.Time{}, false
	}
	return in(kind, int(x.Unix())), true
}

// check holds Parse against the chapter's words, and Contents if there is a time.
func check(t *testing.T, kind int, s string) {
	t.Helper()
	want, ok := meant(kind, s)
	x, e := clock.Parse(kind, []byte(s))
	if !ok {
		if e != api.ErrForm || x != (clock.Time{}) {
			t.Errorf("Parse(%d, %q) = %v, %d", kind, s, x, e)
		}
		return
	}
	b, f := clock.Contents(x)
	if e != api.OK || x != want || f != api.OK || string(b) != s {
		t.Errorf("Parse(%d, %q) = %v, %d, whose contents are %q, %d", kind, s, x, e, b, f)
	}
}

// P10.1, P10.2, P10.4: the contents of times at all edges, read back as they were; different times have different contents.
func TestContents(t *testing.T) {
	seen := map[string]clock.Time{}
	for _, s := range dated() {
		for _, kind := range []int{utc, general} {
			x := in(kind, s)
			b, e := clock.Contents(x)
			if !right(x) {
				if e != api.ErrArg || len(b) != 0 {
					t.Fatal(x, b, e)
				}
				continue
			}
			if e != api.OK || string(b) != told(x) {
				t.Fatalf("Contents(%v) = %q, %d", x, b, e)
			}
			if y, e := clock.Parse(kind, b); e != api.OK || y != x {
				t.Fatalf("Parse(%d, %q) = %v, %d", kind, b, y, e)
			}
			if y, there := seen[string(b)]; there && y != x {
				t.Fatalf("%v and %v are %q", x, y, b)
			}
			seen[string(b)] = x
		}
	}
}

// P10.1: what is not valid has no contents.
func TestContentsErrors(t *testing.T) {
	var all []clock.Time
	for _, s := range farSeconds {
		all = append(all, in(utc, s), in(general, s), in(0, s))
	}
	for _, kind := range noKinds {
		all = append(all, in(kind, 0), in(kind, date.First), in(kind, lastUtc), in(kind, -1<<63))
	}
	for _, x := range append(all, clock.Time{}, in(utc, firstUtc-1), in(utc, lastUtc+1), in(utc, date.First), in(utc, date.Last)) {
		if b, e := clock.Contents(x); len(b) != 0 || e != api.ErrArg {
			t.Errorf("Contents(%v) = %q, %d", x, b, e)
		}
		if b, e := clock.Write(x); len(b) != 0 || e != api.ErrArg {
			t.Errorf("Write(%v) = %x, %d", x, b, e)
		}
	}
}

// bases are contents of each kind, by kind.
var bases = map[int][]string{
	utc:     {"500101000000Z", "491231235959Z", "000229120000Z", "991130101010Z"},
	general: {"00000101000000Z", "99991231235959Z", "20000229120000Z", "19500101000000Z", "20491231235959Z", "20500101000000Z", "19001130101010Z"},
}

// P10.2: every pair of digits at every place: years of both centuries, months, days, hours, minutes and seconds at and beyond their edges.
func TestParseEveryPair(t *testing.T) {
	for kind, l := range bases {
		for _, s := range l {
			for at := 0; at+2 < len(s); at++ {
				for n := range 100 {
					check(t, kind, fmt.Sprintf("%s%02d%s", s[:at], n, s[at+2:]))
				}
			}
		}
	}
}

// P10.2: every year of both kinds with every month and the days at its end.
func TestParseEveryMonth(t *testing.T) {
	for y := range 10000 {
		for m := range 14 {
			for _, d := range []int{0, 1, 28, 29, 30, 31, 32} {
				check(t, general, fmt.Sprintf("%04d%02d%02d235959Z", y, m, d))
				if y < 100 {
					check(t, utc, fmt.Sprintf("%02d%02d%02d000000Z", y, m, d))
				}
			}
		}
	}
}

// P10.2: every byte at every place, and beside it.
func TestParseEveryByte(t *testing.T) {
	for kind, l := range bases {
		for _, s := range l {
			for at := range len(s) {
				for x := range 256 {
					b := []byte(s)
					b[at] = byte(x)
					check(t, kind, string(b))
					check(t, kind, string(slices.Insert([]byte(s), at, byte(x))))
				}
				check(t, kind, s[:at])
				check(t, kind, s[at:])
				check(t, kind, s[:at]+s[at+1:])
			}
			for x := range 256 {
				check(t, kind, s+string([]byte{byte(x)}))
			}
		}
	}
}

// P10.2: forms of other writers, and contents of the other kind.
func TestParseErrors(t *testing.T) {
	both := []string{
		"", "Z", "ZZ", "0", "00", "4912312359Z", "491231235959", "491231235959z", "491231235959+0000", "491231235959-0000", "491231235959+0000Z", "491231235959Z\x00", "\x00491231235959Z", " 491231235959Z", "491231235959 Z", "491231235959ZZ", "4912312359Z59",
		"491231235959.0Z", "491231235959,5Z", "491231235960Z", "491231236000Z", "491231240000Z", "491331000000Z", "490031000000Z", "491200000000Z", "491232000000Z", "490229000000Z", "490230000000Z", "990431000000Z", "4912312359-1Z", "4912312359+1Z", "4912312359 1Z", "49123123 959Z", "-91231235959Z", "+91231235959Z",
		"20491231235960Z", "2049123123595Z", "20491231235959", "204912312359Z", "2049123123Z", "20491231235959.0Z", "20491231235959.5Z", "20491231235959,0Z", "20491231235959+0000", "20491231235959z", "020491231235959Z", "120491231235959Z", "-0011231235959Z", "+2049123123595Z", "19000229000000Z", "20490229000000Z", "100000101000000Z",
		"49123123595\xd9\xa9Z", "４９1231235959Z", "491231235959\xda", "\xb49\xb11231235959Z", "491231:35959Z", "49123123595/Z", "49123123595:Z", "4912312359ZZZ",
	}
	for _, s := range both {
		check(t, utc, s)
		check(t, general, s)
		for _, kind := range []int{utc, general} {
			if x, e := clock.Parse(kind, []byte(s)); e != api.ErrForm || x != (clock.Time{}) {
				t.Errorf("Parse(%d, %q) = %v, %d", kind, s, x, e)
			}
		}
	}
	for _, s := range bases[utc] {
		check(t, general, s)
	}
	for _, s := range bases[general] {
		check(t, utc, s)
	}
	for _, n := range []int{14, 16, 255, 256 + 13, 256 + 15, 1<<16 + 15, api.MaxInput + 1} {
		for kind, l := range bases {
			long := l[0] + strings.Repeat("0", n)
			if x, e := clock.Parse(kind, []byte(long[:n])); e != api.ErrForm || x != (clock.Time{}) {
				t.Error(kind, n, x, e)
			}
			if x, e := clock.Parse(kind, []byte(strings.Repeat("Z", n))); e != api.ErrForm || x != (clock.Time{}) {
				t.Error(kind, n, x, e)
			}
		}
	}
}

// P10.2: what is no kind comes ahead of what are no contents.
func TestParseNoKind(t *testing.T) {
	for _, kind := range noKinds {
		for _, s := range []string{"", "x", "500101000000Z", "20500101000000Z"} {
			if x, e := clock.Parse(kind, []byte(s)); e != api.ErrArg || x != (clock.Time{}) {
				t.Errorf("Parse(%d, %q) = %v, %d", kind, s, x, e)
			}
		}
		if x, e := clock.Parse(kind, nil); e != api.ErrArg || x != (clock.Time{}) {
			t.Error(kind, x, e)
		}
	}
	for _, kind := range []int{utc, general} {
		if x, e := clock.Parse(kind, nil); e != api.ErrForm || x != (clock.Time{}) {
			t.Error(kind, x, e)
		}
	}
}

// P10.1, P10.2: the chapter's examples.
func TestExamples(t *testing.T) {
	for s, want := range map[string]string{"491231235959Z": "2049-12-31T23:59:59Z", "500101000000Z": "1950-01-01T00:00:00Z"} {
		x, e := clock.Parse(utc, []byte(s))
		if text, f := date.Text(x.Second); e != api.OK || f != api.OK || text != want {
			t.Error(s, text, e, f)
		}
	}
	if x, e := clock.Parse(utc, []byte("4912312359Z")); e != api.ErrForm || x != (clock.Time{}) {
		t.Error(x, e)
	}
}

// P10.4 and the rule of memory: the argument is not changed, not even behind its end, and results are new memory.
func TestContentsMemory(t *testing.T) {
	room := []byte("500101000000Z0000Z")
	before := bytes.Clone(room)
	if x, e := clock.Parse(utc, room[:13]); e != api.OK || x != in(utc, firstUtc) || !bytes.Equal(room, before) {
		t.Error(x, e, string(room))
	}
	for _, x := range []clock.Time{in(utc, 0), in(general, 0)} {
		a, _ := clock.Contents(x)
		b, _ := clock.Contents(x)
		a = append(a, 'x')
		clear(a[:cap(a)])
		if string(b) != told(x) {
			t.Errorf("%q", b)
		}
	}
}
