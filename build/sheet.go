package build

import (
	"slices"

	"quittance/api"
	"quittance/head"
	"quittance/octet"
)

// frame collects the contents of one element.
type frame struct {
	tag  head.Tag
	set  bool // its elements are sorted when it is closed
	held []byte
}

// hold appends copies of the arguments.
func (f *frame) hold(l ...[]byte) {
	for _, b := range l {
		f.held = append(f.held, b...)
	}
}

// contents returns what the frame holds, cut so that whoever is given it cannot append into the room behind it.
func (f *frame) contents() []byte { return f.held[:len(f.held):len(f.held)] }

// element returns what the frame becomes when it is closed.
func (f *frame) element() ([]byte, api.Errno) {
	if !f.set {
		return head.Wrap(f.tag, f.contents())
	}
	l, e := Wholes(octet.New(f.contents()))
	if e != api.OK {
		return nil, e
	}
	return SetOf(l...)
}

// Sheet is a builder of elements: the innermost frame, and those around it. For a nil sheet nothing is done.
type Sheet struct {
	frame
	around []frame // the outermost one, which is the sheet's own, first
	failed api.Errno
}

// New returns an empty sheet.
func New() *Sheet { return &Sheet{} }

// dead reports whether nothing can be built any more.
func (s *Sheet) dead() bool { return s == nil || s.failed != api.OK }

// Put appends its arguments to the innermost frame, as they are.
func (s *Sheet) Put(l ...[]byte) {
	if !s.dead() {
		s.hold(l...)
	}
}

// Open opens a frame for an element with the tag t. Whether t is valid is seen when the frame is closed.
func (s *Sheet) Open(t head.Tag) { s.enter(frame{tag: t}) }

// OpenSet opens a frame for a Set, whose elements may be put in any order.
func (s *Sheet) OpenSet() { s.enter(frame{set: true}) }

// enter makes f the innermost frame.
func (s *Sheet) enter(f frame) {
	if s.dead() {
		return
	}
	s.around = append(s.around, s.frame)
	s.frame = f
}

// Shut closes the innermost frame. If that fails, the frame stays open.
func (s *Sheet) Shut() {
	if s.dead() {
		return
	}
	if s.Depth() == 0 {
		s.Fail(api.ErrState)
		return
	}
	b, e := s.element()
	if e != api.OK {
		s.Fail(e)
		return
	}
	last := len(s.around) - 1
	s.frame = s.around[last]
	s.around = slices.Delete(s.around, last, last+1) // which forgets what the frame held, too
	s.hold(b)
}

// Fail makes the sheet fail with e, unless it has failed already or e is OK.
func (s *Sheet) Fail(e api.Errno) {
	if s.dead() || e == api.OK {
		return
	}
	s.failed = e
	s.frame = frame{}
	clear(s.around) // they are still counted, but what they held is never asked for again
}

// Bytes returns what was built. The sheet can be used further.
func (s *Sheet) Bytes() ([]byte, api.Errno) {
	switch {
	case s == nil:
		return nil, api.ErrState
	case s.failed != api.OK:
		return nil, s.failed
	case s.Depth() > 0:
		return nil, api.ErrState
	}
	return octet.Join(s.contents()), api.OK
}

// Depth returns the number of open frames, without the sheet's own.
func (s *Sheet) Depth() int {
	if s == nil {
		return 0
	}
	return len(s.around)
}
