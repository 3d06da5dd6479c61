package item

import (
	"quittance/api"
	"quittance/head"
	"quittance/octet"
)

// maxHeader is the length of the longest header: a tag of four bytes and a length of five.
const maxHeader = 9

// reader reads trees. Its cursor is one over the whole input, so that a byte is not copied again for each tree that contains it.
type reader struct {
	*octet.Cursor
	spans [][2]int // of the trees that have begun
}

// Parse returns the tree whose element is b.
func Parse(b []byte) (Item, api.Errno) {
	t, _, e := parse(b)
	return t, e
}

// Spans returns where in b the elements of the trees begin and end, each before its kids.
func Spans(b []byte) ([][2]int, api.Errno) {
	_, spans, e := parse(b)
	return spans, e
}

func parse(b []byte) (Item, [][2]int, api.Errno) {
	if len(b) > api.MaxInput {
		return Item{}, nil, api.ErrLong
	}
	r := reader{Cursor: octet.New(b)}
	t, e := r.tree(1, len(b))
	if e != api.OK {
		return Item{}, nil, e
	}
	if r.Left() > 0 {
		return Item{}, nil, api.ErrMore
	}
	return t, r.spans, api.OK
}

// tree returns the next tree, which has that depth and is in contents that end there.
func (r *reader) tree(depth, end int) (Item, api.Errno) {
	begin := r.At()
	tag, n, e := r.header(end)
	switch {
	case e != api.OK:
		return Item{}, e
	case n > end-r.At():
		return Item{}, api.ErrEnd
	case depth > api.MaxDepth:
		return Item{}, api.ErrDeep
	case len(r.spans) == api.MaxItems:
		return Item{}, api.ErrLong
	}
	r.spans = append(r.spans, [2]int{begin, r.At() + n})
	return r.inside(tag, depth, n)
}

// header returns the next header. It is read from a piece that ends where the contents do, as its bytes must not come from behind them.
func (r *reader) header(end int) (head.Tag, int, api.Errno) {
	at := r.At()
	piece, e := r.Sub(min(maxHeader, end-at))
	if e != api.OK {
		return head.Tag{}, 0, e
	}
	tag, n, e := head.Read(piece)
	r.Back(at + piece.At())
	return tag, n, e
}

// inside returns the tree with that tag, of which the next n bytes are the contents.
func (r *reader) inside(tag head.Tag, depth, n int) (Item, api.Errno) {
	if !tag.Made {
		b, e := r.Take(n)
		return Item{Tag: tag, Bytes: b}, e
	}
	t, end := Item{Tag: tag}, r.At()+n
	for r.At() < end {
		kid, e := r.tree(depth+1, end)
		if e != api.OK {
			return Item{}, e
		}
		t.Kids = append(t.Kids, kid)
	}
	return t, api.OK
}
