package mac

// Hash is a digest in the making.
type Hash struct {
	state              // of the blocks that are complete
	block   [size]byte // its first written % size bytes are those behind these blocks
	written int
}

// New returns a hash to which nothing was written.
func New() *Hash { return &Hash{} }

// Put writes the bytes of l, one after another.
func (h *Hash) Put(l ...[]byte) {
	if h == nil {
		return
	}
	for _, b := range l {
		h.put(b)
	}
}

func (h *Hash) put(b []byte) {
	if h.written == 0 {
		h.state = start // here and not in New, so that Hash{} is a hash too
	}
	for len(b) > 0 {
		n := copy(h.block[h.written%size:], b)
		h.written += n
		b = b[n:]
		if h.written%size == 0 {
			h.process(h.block)
		}
	}
}

// Sum returns the digest of what was written.
func (h *Hash) Sum() [32]byte {
	c := h.Copy()
	c.Put(ending(c.written))
	return c.digest()
}

// ending returns the bytes that make blocks of n bytes: 128, zero bytes, and the number of bits.
func ending(n int) []byte {
	zeros := (size + 55 - n%size) % size
	out := make([]byte, 1+zeros+8)
	out[0] = 128
	bits := uint64(n) * 8
	for i := range 8 {
		out[len(out)-1-i] = byte(bits >> (8 * i))
	}
	return out
}

// Len returns the number of bytes that were written.
func (h *Hash) Len() int {
	if h == nil {
		return 0
	}
	return h.written
}

// Copy returns another hash to which the same was written.
func (h *Hash) Copy() *Hash {
	if h == nil {
		return New()
	}
	c := *h
	return &c
}
