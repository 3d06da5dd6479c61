package mac_test

import (
	"bytes"
	"math/rand"
	"testing"

	"quittance/mac"
)

// told checks that a hash is one to which b was written: by its digest, its length, and once more after these calls.
func told(t *testing.T, h *mac.Hash, b []byte) {
	t.Helper()
	want := [32]byte(digest(b))
	for range 2 {
		if got := h.Sum(); got != want || h.Len() != len(b) {
			t.Fatalf("%d bytes: %x, %d", len(b), got, h.Len())
		}
	}
}

// P12.2: a new hash, and hashes that know nothing of each other.
func TestNew(t *testing.T) {
	a, b := mac.New(), mac.New()
	told(t, a, nil)
	a.Put([]byte("bytes"))
	told(t, a, []byte("bytes"))
	told(t, b, nil)
	told(t, mac.New(), nil)
}

// P12.2: bytes come one by one, and the digest is asked for after each.
func TestPutOneByOne(t *testing.T) {
	b := anyBytes(rand.New(rand.NewSource(6)), 300)
	h := mac.New()
	for i := range b {
		told(t, h, b[:i])
		h.Put(b[i : i+1])
	}
	told(t, h, b)
}

// P12.2: bytes come in two calls, cut at each place around the ends of blocks.
func TestPutTwice(t *testing.T) {
	b := anyBytes(rand.New(rand.NewSource(7)), 260)
	for cut := range len(b) + 1 {
		for _, end := range []int{cut, min(cut+1, len(b)), min(cut+63, len(b)), min(cut+64, len(b)), min(cut+65, len(b)), min(cut+128, len(b)), len(b)} {
			h := mac.New()
			h.Put(b[:cut])
			h.Put(b[cut:end])
			told(t, h, b[:end])
		}
	}
}

// P12.2: no bytes at all change nothing.
func TestPutNothing(t *testing.T) {
	for _, n := range []int{0, 1, 55, 56, 63, 64, 65, 128} {
		b := anyBytes(rand.New(rand.NewSource(8)), n)
		h := mac.New()
		h.Put()
		h.Put(nil, b, []byte{})
		h.Put()
		h.Put(nil)
		h.Put([]byte{}, nil)
		told(t, h, b)
	}
}

// P12.2: random calls of several hashes, each of which is copied from another one or new.
func TestHashes(t *testing.T) {
	r := rand.New(rand.NewSource(9))
	for range 100 {
		hashes, written := []*mac.Hash{mac.New()}, [][]byte{nil}
		for range 60 {
			i := r.Intn(len(hashes))
			switch h := hashes[i]; r.Intn(4) {
			case 0, 1:
				b := anyBytes(r, r.Intn(150))
				h.Put(pieces(r, b)...)
				written[i] = append(bytes.Clone(written[i]), b...)
			case 2:
				hashes, written = append(hashes, h.Copy()), append(written, written[i])
			case 3:
				told(t, h, written[i])
			}
		}
		for i, h := range hashes {
			told(t, h, written[i])
		}
	}
}

// P12.2: a copy and what it was copied from go different ways, wherever a block ends.
func TestCopy(t *testing.T) {
	all := anyBytes(rand.New(rand.NewSource(10)), 400)
	for n := range 140 {
		h := mac.New()
		h.Put(all[:n])
		c := h.Copy()
		if c == h {
			t.Fatal("is no other one")
		}
		h.Put(all[n : n+100])
		told(t, c, all[:n])
		c.Put(all[300:])
		told(t, h, all[:n+100])
		told(t, c, append(bytes.Clone(all[:n]), all[300:]...))
	}
}

// P12.2: a nil hash behaves as one to which nothing was written, also after Put; its copy is a new one.
func TestNil(t *testing.T) {
	var h *mac.Hash
	told(t, h, nil)
	h.Put()
	h.Put(nil)
	h.Put([]byte("bytes"), anyBytes(rand.New(rand.NewSource(11)), 200))
	told(t, h, nil)
	c := h.Copy()
	if c == nil {
		t.Fatal("is nil")
	}
	told(t, c, nil)
	c.Put([]byte("bytes"))
	told(t, c, []byte("bytes"))
	told(t, h, nil)
}

// P2: a hash that New did not make behaves as one that it made.
func TestZero(t *testing.T) {
	var h mac.Hash
	told(t, &h, nil)
	told(t, h.Copy(), nil)
	h.Put([]byte("bytes"))
	told(t, &h, []byte("bytes"))
}

// P12.3: what was written is not kept: it may be written over.
func TestPutKeepsNothing(t *testing.T) {
	r := rand.New(rand.NewSource(12))
	for n := range 200 {
		b := anyBytes(r, n)
		l := [][]byte{bytes.Clone(b[:n/2]), bytes.Clone(b[n/2:])}
		h := mac.New()
		h.Put(l...)
		clear(l[0])
		clear(l[1])
		clear(l)
		told(t, h, b)
	}
}

// The rule of memory: a digest is new memory.
func TestSumIsNewMemory(t *testing.T) {
	h := mac.New()
	h.Put([]byte("bytes"))
	got := h.Sum()
	clear(got[:])
	told(t, h, []byte("bytes"))
}
