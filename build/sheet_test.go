package build_test

import (
	"bytes"
	"math"
	"math/rand"
	"slices"
	"testing"

	"quittance/api"
	"quittance/build"
	"quittance/head"
	"quittance/octet"
)

// wrongTags are tags that are not valid.
var wrongTags = []head.Tag{{Class: -1}, {Class: 4}, {Class: 4, Made: true}, {Number: -1}, {Number: 1 << 21}, {Number: 1 << 21, Made: true}, {Class: math.MinInt}, {Class: 256}, {Class: 1 << 32}, {Number: math.MaxInt}, {Number: 1 << 32, Made: true}, {Class: -1, Number: -1, Made: true}}

// seq is the tag that the tests open most.
var seq = head.Of(head.Sequence)

// has holds what a sheet returns against what it should.
func has(t *testing.T, s *build.Sheet, want string, wrong api.Errno, depth int) {
	t.Helper()
	b, e := s.Bytes()
	if e != wrong || octet.Hex(b) != want {
		t.Error("Bytes", octet.Hex(b), e, "not", want, wrong)
	}
	if d := s.Depth(); d != depth {
		t.Error("Depth", d, "not", depth)
	}
}

// P8.1: an empty sheet.
func TestNew(t *testing.T) {
	s := build.New()
	if s == nil {
		t.Fatal("no sheet")
	}
	has(t, s, "", api.OK, 0)
	other := build.New()
	s.Put([]byte{1})
	s.Open(seq)
	has(t, other, "", api.OK, 0)
	has(t, build.New(), "", api.OK, 0)
}

// P8.1: what is put is not looked at.
func TestPut(t *testing.T) {
	s := build.New()
	s.Put()
	has(t, s, "", api.OK, 0)
	s.Put(nil)
	s.Put([]byte{})
	s.Put(nil, []byte{}, nil)
	has(t, s, "", api.OK, 0)
	s.Put([]byte{5, 0})
	has(t, s, "0500", api.OK, 0)
	s.Put([]byte{1}, nil, []byte{0xff, 0x80}, []byte{1})
	has(t, s, "050001ff8001", api.OK, 0)
	s.Put()
	s.Put([][]byte{}...)
	has(t, s, "050001ff8001", api.OK, 0)
	for _, l := range lists(t) {
		s := build.New()
		s.Put(l...)
		has(t, s, octet.Hex(bytes.Join(l, nil)), api.OK, 0)
		s.Open(head.At(3, false))
		s.Put(l...)
		s.Put([]byte{9})
		s.Shut()
		has(t, s, octet.Hex(bytes.Join(l, nil))+octet.Hex(element(2, 3, false, append(bytes.Join(l, nil), 9))), api.OK, 0)
	}
}

// P8.1: the depth ahead of and behind each call.
func TestFrames(t *testing.T) {
	s := build.New()
	s.Open(seq)
	has(t, s, "", api.ErrState, 1)
	s.Put([]byte{5, 0})
	has(t, s, "", api.ErrState, 1)
	s.Open(head.At(0, true))
	has(t, s, "", api.ErrState, 2)
	s.OpenSet()
	has(t, s, "", api.ErrState, 3)
	s.Put([]byte{2, 1, 9}, []byte{2, 1, 3})
	has(t, s, "", api.ErrState, 3)
	s.Shut()
	has(t, s, "", api.ErrState, 2)
	s.Shut()
	has(t, s, "", api.ErrState, 1)
	s.Put([]byte{7})
	s.Open(head.At(31, false))
	has(t, s, "", api.ErrState, 2)
	s.Shut()
	has(t, s, "", api.ErrState, 1)
	s.Shut()
	has(t, s, "3010"+"0500"+"a008"+"3106020103020109"+"07"+"9f1f00", api.OK, 0)
}

// P8.1: frames with and without contents, one in the other and one behind the other.
func TestFramesOfAllShapes(t *testing.T) {
	open := func(s *build.Sheet) { s.Open(seq) }
	set := func(s *build.Sheet) { s.OpenSet() }
	plainSet := func(s *build.Sheet) { s.Open(head.Of(head.Set)) }
	shut := func(s *build.Sheet) { s.Shut() }
	put := func(l ...string) func(*build.Sheet) {
		return func(s *build.Sheet) { s.Put(raws(t, l...)...) }
	}
	for _, x := range []struct {
		calls []func(*build.Sheet)
		want  string
	}{
		{[]func(*build.Sheet){open, shut}, "3000"},
		{[]func(*build.Sheet){open, shut, open, shut}, "30003000"},
		{[]func(*build.Sheet){open, open, open, shut, shut, shut}, "300430023000"},
		{[]func(*build.Sheet){open, open, shut, open, shut, shut}, "300430003000"},
		{[]func(*build.Sheet){put("01"), open, put("02"), shut, put("03")}, "0130010203"},
		{[]func(*build.Sheet){put("01"), open, put("02"), open, put("03"), shut, put("04"), shut, put("05")}, "013005023001030405"},
		{[]func(*build.Sheet){set, shut}, "3100"},
		{[]func(*build.Sheet){set, put("0500"), shut}, "31020500"},
		{[]func(*build.Sheet){set, put("0500", "0500", "0500"), shut}, "3106050005000500"},
		{[]func(*build.Sheet){set, put("0500"), put("0100"), put("0200"), shut}, "3106010002000500"},
		{[]func(*build.Sheet){set, put("05000100", "02", "00"), shut}, "3106010002000500"}, // an element is not what was put at once
		{[]func(*build.Sheet){set, put("0100", "0200", "0500"), shut}, "3106010002000500"},
		{[]func(*build.Sheet){set, put("020105", "0101ff"), shut}, "31060101ff020105"},
		{[]func(*build.Sheet){set, put("04020000", "0401ff", "0400"), shut}, "310904000401ff04020000"},
		{[]func(*build.Sheet){set, open, put("0500"), shut, put("0500"), set, put("0200", "0100"), shut, shut}, "310c0500300205003104" + "01000200"},
		{[]func(*build.Sheet){set, put("3000"), set, put("3100"), open, put("ff"), shut, shut, put("0100"), shut}, "310b010030003105" + "3001ff3100"},
		{[]func(*build.Sheet){plainSet, put("0500", "0100"), shut}, "310405000100"}, // only a frame of a set sorts
		{[]func(*build.Sheet){plainSet, put("ff", "05"), shut}, "3102ff05"},
		{[]func(*build.Sheet){set, put("0500", "0100"), shut, plainSet, put("0500", "0100"), shut, open, put("0500", "0100"), shut}, "310401000500" + "310405000100" + "300405000100"},
		{[]func(*build.Sheet){set, put("02"), put("01"), put("05"), put("0101ff"), shut}, "31060101ff020105"},
		{[]func(*build.Sheet){put("0500", "0100"), set, shut, put("ff")}, "050001003100ff"},
	} {
		s := build.New()
		for _, call := range x.calls {
			call(s)
		}
		has(t, s, x.want, api.OK, 0)
	}
}

// P8.1: every kind of tag, whether it is Made or not.
func TestOpenTags(t *testing.T) {
	for class := range 4 {
		for _, n := range rightNumbers {
			for _, made := range []bool{false, true} {
				s := build.New()
				s.Open(head.Tag{Class: class, Number: n, Made: made})
				s.Put([]byte{1, 2}, []byte{3})
				s.Shut()
				has(t, s, octet.Hex(element(class, n, made, []byte{1, 2, 3})), api.OK, 0)
			}
		}
	}
}

// P8.1: each call of a nil sheet.
func TestNilSheet(t *testing.T) {
	var s *build.Sheet
	for range 2 {
		has(t, s, "", api.ErrState, 0)
		s.Put()
		s.Put([]byte{1}, nil)
		s.Open(seq)
		has(t, s, "", api.ErrState, 0)
		s.Open(head.Tag{Class: -1})
		s.OpenSet()
		s.Shut()
		has(t, s, "", api.ErrState, 0)
		s.Fail(api.OK)
		s.Fail(api.ErrArg)
	}
}

// calls are all calls that change a sheet that has not failed.
var calls = []func(*build.Sheet){
	func(s *build.Sheet) { s.Put() },
	func(s *build.Sheet) { s.Put([]byte{5, 0}) },
	func(s *build.Sheet) { s.Open(seq) },
	func(s *build.Sheet) { s.Open(head.Tag{Class: 9}) },
	func(s *build.Sheet) { s.OpenSet() },
	func(s *build.Sheet) { s.Shut() },
	func(s *build.Sheet) { s.Fail(api.OK) },
	func(s *build.Sheet) { s.Fail(api.ErrScope) },
	func(s *build.Sheet) { s.Bytes() },
}

// stays checks that a sheet has failed, and that no call changes its error or its depth.
func stays(t *testing.T, s *build.Sheet, wrong api.Errno, depth int) {
	t.Helper()
	has(t, s, "", wrong, depth)
	for range 2 {
		for _, call := range calls {
			call(s)
			has(t, s, "", wrong, depth)
		}
	}
}

// P8.2: each error, once and again with another one.
func TestFail(t *testing.T) {
	errnos := []api.Errno{18, 255, 256, -1, math.MinInt, math.MaxInt, 1 << 32}
	for e := api.ErrArg; e <= api.ErrState; e++ {
		errnos = append(errnos, e)
	}
	for _, e := range errnos {
		for depth := range 4 {
			s := build.New()
			s.Put([]byte{1})
			for range depth {
				s.Open(seq)
				s.Put([]byte{2})
			}
			s.Fail(api.OK)
			if b, got := s.Bytes(); depth == 0 && (got != api.OK || octet.Hex(b) != "01") {
				t.Error(octet.Hex(b), got)
			}
			s.Fail(e)
			has(t, s, "", e, depth)
			s.Fail(e + 1)
			s.Fail(api.OK)
			stays(t, s, e, depth)
		}
	}
}

// P8.2: OK is no failure, and the sheet goes on.
func TestFailWithOK(t *testing.T) {
	s := build.New()
	s.Fail(api.OK)
	has(t, s, "", api.OK, 0)
	s.OpenSet()
	s.Fail(api.OK)
	s.Put([]byte{5, 0})
	s.Fail(api.OK)
	s.Put([]byte{1, 0})
	has(t, s, "", api.ErrState, 1)
	s.Shut()
	has(t, s, "310401000500", api.OK, 0)
}

// P8.2: there is no frame to close.
func TestShutWithoutFrame(t *testing.T) {
	s := build.New()
	s.Shut()
	stays(t, s, api.ErrState, 0)
	s = build.New()
	s.Put([]byte{1})
	s.Open(seq)
	s.Shut()
	has(t, s, "013000", api.OK, 0)
	s.Shut()
	stays(t, s, api.ErrState, 0)
}

// P8.2: a tag is refused when its frame is closed, and the frame stays open.
func TestShutOfWrongTag(t *testing.T) {
	for _, tag := range wrongTags {
		for depth := range 3 {
			s := build.New()
			for range depth {
				s.Open(seq)
			}
			s.Open(tag)
			has(t, s, "", api.ErrState, depth+1)
			s.Put([]byte{5, 0})
			s.Open(seq)
			s.Shut()
			has(t, s, "", api.ErrState, depth+1)
			s.Shut()
			stays(t, s, api.ErrArg, depth+1)
		}
	}
}

// P8.2: contents that are too long for an element.
func TestShutTooLong(t *testing.T) {
	half := make([]byte, 1<<23)
	s := build.New()
	s.Open(seq)
	s.Put(half, half)
	s.Shut()
	if b, e := s.Bytes(); e != api.OK || !bytes.Equal(b, element(0, 16, true, make([]byte, 1<<24))) {
		t.Error(len(b), e)
	}
	s.Put([]byte{1}) // the sheet itself has no limit
	if b, e := s.Bytes(); e != api.OK || len(b) != 1<<24+7 {
		t.Error(len(b), e)
	}
	s.Open(seq)
	s.Put(half, []byte{1}, half)
	s.Shut()
	stays(t, s, api.ErrLong, 1)
	s = build.New()
	s.Open(head.Tag{Class: 4}) // the tag ahead of the length
	s.Put(half, []byte{1}, half)
	s.Shut()
	stays(t, s, api.ErrArg, 1)
}

// P8.2: the elements of a set ahead of its length.
func TestShutOfLongSet(t *testing.T) {
	long := element(0, 4, false, make([]byte, 1<<24-6))
	s := build.New()
	s.OpenSet()
	s.Put(long)
	s.Shut()
	if b, e := s.Bytes(); e != api.OK || !bytes.Equal(b, element(0, 17, true, long)) {
		t.Error(len(b), e)
	}
	s.OpenSet()
	s.Put(long, []byte{5, 0})
	s.Shut()
	stays(t, s, api.ErrLong, 1)
	for in, want := range map[string]api.Errno{"0480": api.ErrLen, "0401": api.ErrEnd, "1f0100": api.ErrTag} {
		s = build.New()
		s.OpenSet()
		s.Put(long, []byte{5, 0}, raw(t, in))
		s.Shut()
		stays(t, s, want, 1)
	}
}

// P8.2: a frame of a set whose contents are no elements, or end too early.
func TestShutOfWrongSet(t *testing.T) {
	for in, want := range map[string]api.Errno{
		"05": api.ErrEnd, "0205": api.ErrEnd, "1f": api.ErrEnd, "0482": api.ErrEnd, "04030102": api.ErrEnd, "0500" + "05": api.ErrEnd, "0500" + "0401" + "": api.ErrEnd, "0100" + "0500" + "3001": api.ErrEnd,
		"1f0100": api.ErrTag, "0500" + "1f1e00": api.ErrTag, "0480": api.ErrLen, "0500" + "04817f": api.ErrLen, "048401000001": api.ErrLong, "0500" + "048401000001": api.ErrLong,
		"0480" + "1f0100": api.ErrLen, "1f0100" + "0480": api.ErrTag, "0500" + "0480" + "05": api.ErrLen,
	} {
		for _, cuts := range []int{1, 2, 3} { // put in one, and in parts
			s := build.New()
			s.Put([]byte{7})
			s.Open(seq)
			s.OpenSet()
			b := raw(t, in)
			for i := range cuts {
				s.Put(b[len(b)*i/cuts : len(b)*(i+1)/cuts])
			}
			has(t, s, "", api.ErrState, 2)
			s.Shut()
			stays(t, s, want, 2)
		}
	}
	s := build.New() // no elements are needed but in a frame of a set
	s.Open(head.Of(head.Set))
	s.Put([]byte{5})
	s.Shut()
	has(t, s, "310105", api.OK, 0)
}

// P8.2: the first error stays.
func TestWhichErrorStays(t *testing.T) {
	s := build.New()
	s.OpenSet()
	s.Put([]byte{5})
	s.Fail(api.ErrTwice) // ahead of the one that Shut would find
	s.Shut()
	stays(t, s, api.ErrTwice, 1)
	s = build.New()
	s.OpenSet()
	s.Put([]byte{4, 0x80})
	s.Shut()
	s.Fail(api.ErrTwice)
	stays(t, s, api.ErrLen, 1)
	s = build.New()
	s.Open(head.Tag{Class: -1})
	s.OpenSet()
	s.Put([]byte{5})
	s.Shut()
	s.Shut()
	stays(t, s, api.ErrEnd, 2)
	s = build.New()
	s.Shut()
	s.Fail(api.ErrTwice)
	s.Open(head.Tag{Class: -1})
	s.Shut()
	stays(t, s, api.ErrState, 0)
	s = build.New()
	s.Fail(api.ErrTwice)
	s.Shut()
	stays(t, s, api.ErrTwice, 0)
	s = build.New()
	s.Open(seq)
	s.Bytes() // the error of an open frame is none of the sheet's
	s.Shut()
	has(t, s, "3000", api.OK, 0)
}

// P8.3: several times, and the sheet is used further.
func TestBytesAndFurther(t *testing.T) {
	s, want := build.New(), ""
	for i := range 40 {
		s.Put([]byte{byte(i)})
		want += octet.Hex([]byte{byte(i)})
		has(t, s, want, api.OK, 0)
		has(t, s, want, api.OK, 0)
		s.Open(seq)
		has(t, s, "", api.ErrState, 1)
		s.Put([]byte{byte(i), 1})
		has(t, s, "", api.ErrState, 1)
		s.Shut()
		want += "3002" + octet.Hex([]byte{byte(i), 1})
		has(t, s, want, api.OK, 0)
	}
	s.Fail(api.ErrStale)
	stays(t, s, api.ErrStale, 0)
}

// P8.1: many frames, one behind the other and one in the other.
func TestManyFrames(t *testing.T) {
	s := build.New()
	s.OpenSet()
	for i := range 100000 {
		s.Open(head.Of(head.OctetString))
		s.Put([]byte{byte(i)})
		s.Shut()
	}
	s.Shut()
	b, e := s.Bytes()
	l, wrong := build.Wholes(octet.New(b[5:]))
	if e != api.OK || wrong != api.OK || len(b) != 300005 || len(l) != 100000 || !rising(l) {
		t.Error(len(b), e, len(l), wrong)
	}
	s = build.New()
	var want []byte
	for range 3000 {
		s.Open(seq)
		want = element(0, 16, true, want)
	}
	if s.Depth() != 3000 {
		t.Error(s.Depth())
	}
	for i := range 3000 {
		s.Shut()
		if s.Depth() != 2999-i {
			t.Error(i, s.Depth())
		}
	}
	if b, e := s.Bytes(); e != api.OK || !bytes.Equal(b, want) {
		t.Error(len(b), e)
	}
}

// model is a sheet in the chapter's words: all its frames, and what is put is what is there.
type model struct {
	tags   []head.Tag
	sets   []bool
	frames [][]byte
	failed api.Errno
}

func newModel() *model {
	return &model{tags: make([]head.Tag, 1), sets: make([]bool, 1), frames: make([][]byte, 1)}
}

func (m *model) depth() int { return len(m.frames) - 1 }

func (m *model) put(l ...[]byte) {
	if m.failed == api.OK {
		m.frames[m.depth()] = slices.Concat(m.frames[m.depth()], bytes.Join(l, nil))
	}
}

func (m *model) open(t head.Tag, set bool) {
	if m.failed == api.OK {
		m.tags, m.sets, m.frames = append(m.tags, t), append(m.sets, set), append(m.frames, nil)
	}
}

func (m *model) fail(e api.Errno) {
	if m.failed == api.OK {
		m.failed = e
	}
}

func (m *model) shut() {
	d := m.depth()
	if m.failed != api.OK {
		return
	}
	if d == 0 {
		m.fail(api.ErrState)
		return
	}
	tag, contents := m.tags[d], m.frames[d]
	if m.sets[d] {
		l, e := cut(contents)
		if e != api.OK {
			m.fail(e)
			return
		}
		contents = bytes.Join(ascending(l), nil)
	}
	if tag.Class < 0 || tag.Class > 3 || tag.Number < 0 || tag.Number > topNumber {
		m.fail(api.ErrArg)
		return
	}
	m.tags, m.sets, m.frames = m.tags[:d], m.sets[:d], m.frames[:d]
	m.put(element(tag.Class, tag.Number, tag.Made, contents))
}

func (m *model) bytes() ([]byte, api.Errno) {
	switch {
	case m.failed != api.OK:
		return nil, m.failed
	case m.depth() > 0:
		return nil, api.ErrState
	}
	return m.frames[0], api.OK
}

// step makes one random call of both.
func step(r *rand.Rand, s *build.Sheet, m *model) {
	tag := head.Tag{Class: r.Intn(4), Number: r.Intn(40), Made: r.Intn(2) == 0}
	switch r.Intn(40) {
	case 0:
		tag = wrongTags[r.Intn(len(wrongTags))]
	case 1:
		e := api.Errno(r.Intn(18))
		s.Fail(e)
		m.fail(e)
	case 2: // most often no element
		b := []byte{byte(r.Intn(256))}
		s.Put(b)
		m.put(b)
	}
	switch k := r.Intn(10); {
	case k < 4:
		l := elements(r, 3)
		s.Put(l...)
		m.put(l...)
	case k < 5:
		s.Open(tag)
		m.open(tag, false)
	case k < 6:
		s.OpenSet()
		m.open(head.Of(head.Set), true)
	case m.depth() > 0 || r.Intn(20) == 0:
		s.Shut()
		m.shut()
	}
}

// P8.1 to P8.3: random calls, held against the chapter's words behind each of them.
func TestSheetAgainstModel(t *testing.T) {
	r := rand.New(rand.NewSource(85))
	for range 3000 {
		s, m := build.New(), newModel()
		for range r.Intn(60) {
			step(r, s, m)
			want, wrong := m.bytes()
			has(t, s, octet.Hex(want), wrong, m.depth())
		}
		if t.Failed() {
			return
		}
	}
}
