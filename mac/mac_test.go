package mac_test

import (
	"bytes"
	"crypto/hmac"
	"crypto/sha256"
	"math/rand"
	"slices"
	"testing"

	"quittance/mac"
	"quittance/octet"
)

// anyBytes returns n random bytes.
func anyBytes(r *rand.Rand, n int) []byte {
	b := make([]byte, n)
	for i := range b {
		b[i] = byte(r.Intn(256))
	}
	return b
}

// pieces returns b as several pieces, some of which are empty or nil.
func pieces(r *rand.Rand, b []byte) [][]byte {
	l := [][]byte{}
	for len(b) > 0 {
		n := r.Intn(min(len(b), 100) + 1)
		l = append(l, b[:n:n])
		if n == 0 && r.Intn(2) == 0 {
			l = append(l, nil)
		}
		b = b[n:]
	}
	return l
}

// lengths are those around each end of the first blocks, and around cuts to 8 and 16 bits of the length in bytes and in bits.
var lengths = []int{
	0, 1, 2, 31, 32, 33, 54, 55, 56, 57, 62, 63, 64, 65, 118, 119, 120, 121, 127, 128, 129, 183, 184, 191, 192, 255, 256, 257,
	1000, 1<<12 - 1, 1 << 12, 1<<13 - 1, 1 << 13, 1<<13 + 1, 1<<16 - 1, 1 << 16, 1<<16 + 1,
}

// P12.1: the digest of each few bytes, and of bytes of many lengths, whole and in pieces.
func TestSum(t *testing.T) {
	r := rand.New(rand.NewSource(1))
	check := func(b []byte) {
		want := digest(b)
		if plain := sha256.Sum256(b); !bytes.Equal(plain[:], want) {
			t.Fatal(len(b))
		}
		for _, l := range [][][]byte{{b}, {nil, b}, {b, {}}, pieces(r, b)} {
			if got := mac.Sum(l...); !bytes.Equal(got[:], want) {
				t.Errorf("%d bytes in %d pieces: %x", len(b), len(l), got)
			}
		}
	}
	for n := range 400 {
		check(anyBytes(r, n))
		check(make([]byte, n))
		check(bytes.Repeat([]byte{255}, n))
	}
	for _, n := range lengths {
		check(anyBytes(r, n))
	}
	for x := range 256 {
		check([]byte{byte(x)})
	}
	for range 1000 {
		check(anyBytes(r, r.Intn(2000)))
	}
}

// P12.1: no bytes at all.
func TestSumOfNothing(t *testing.T) {
	want := [32]byte(digest(nil))
	for _, l := range [][][]byte{nil, {}, {nil}, {{}}, {nil, {}, nil}} {
		if got := mac.Sum(l...); got != want {
			t.Errorf("%d pieces: %x", len(l), got)
		}
	}
}

// P12.1: one bit more at each place of two blocks is another digest.
func TestSumOfEachBit(t *testing.T) {
	b := make([]byte, 128)
	seen := map[[32]byte]bool{mac.Sum(b): true}
	for i := range 8 * len(b) {
		b[i/8] = 1 << (i % 8)
		got := mac.Sum(b)
		if seen[got] || got != sha256.Sum256(b) {
			t.Error(i)
		}
		seen[got] = true
		b[i/8] = 0
	}
}

// P12.1 and P12.2: the number of bits takes more than 32 bits.
func TestSumOfManyBytes(t *testing.T) {
	if testing.Short() {
		t.Skip("some seconds long")
	}
	part := bytes.Repeat([]byte("a part of it, whose length has nothing to do with that of a block; "), 1<<13)
	var l [][]byte
	want := sha256.New()
	written := 0
	for written < 1<<29 {
		l = append(l, part)
		want.Write(part)
		written += len(part)
	}
	h := mac.New()
	h.Put(l...)
	if got := h.Sum(); !bytes.Equal(got[:], want.Sum(nil)) || h.Len() != written {
		t.Error(got, h.Len())
	}
}

// P12.1: the tag by keys of each length up to some blocks, of bytes whole and in pieces.
func TestTag(t *testing.T) {
	r := rand.New(rand.NewSource(2))
	check := func(key, b []byte) {
		want := tagged(key, b)
		plain := hmac.New(sha256.New, key)
		plain.Write(b)
		if !bytes.Equal(plain.Sum(nil), want) {
			t.Fatal(len(key), len(b))
		}
		for _, l := range [][][]byte{{b}, {{}, b, nil}, pieces(r, b)} {
			if got := mac.Tag(key, l...); !bytes.Equal(got[:], want) {
				t.Errorf("a key of %d bytes, %d bytes in %d pieces: %x", len(key), len(b), len(l), got)
			}
		}
	}
	for n := range 300 {
		key := anyBytes(r, n)
		check(key, nil)
		check(key, anyBytes(r, r.Intn(200)))
		check(make([]byte, n), key)
		check(bytes.Repeat([]byte{0x36}, n), key)
		check(bytes.Repeat([]byte{0x5c}, n), key)
	}
	for _, n := range lengths {
		check(anyBytes(r, n), anyBytes(r, 20))
		check(anyBytes(r, 20), anyBytes(r, n))
	}
}

// P12.1: neither a key nor bytes, and a key that is padded by zero bytes to the same 64.
func TestTagOfNothing(t *testing.T) {
	want := [32]byte(tagged(nil, nil))
	for _, key := range [][]byte{nil, {}, {0}, make([]byte, 63), make([]byte, 64)} {
		for _, l := range [][][]byte{nil, {}, {nil}, {{}, nil}} {
			if got := mac.Tag(key, l...); got != want {
				t.Errorf("%d zero bytes, %d pieces: %x", len(key), len(l), got)
			}
		}
	}
	if mac.Tag(make([]byte, 65)) == want {
		t.Error("65 zero bytes are too many to be padded")
	}
}

// P12.1: the key ends where it ends, and its last bytes count.
func TestTagOfEachKey(t *testing.T) {
	seen := map[[32]byte]int{}
	for n := range 130 {
		for _, key := range [][]byte{bytes.Repeat([]byte{7}, n), append(bytes.Repeat([]byte{7}, n), 9)} {
			got := mac.Tag(key, []byte("bytes"))
			if other, ok := seen[got]; ok {
				t.Error(len(key), other)
			}
			seen[got] = len(key)
		}
	}
}

// P12.1: the tag itself, and what differs from it in one bit, in length or in all.
func TestCheck(t *testing.T) {
	r := rand.New(rand.NewSource(3))
	for _, n := range []int{0, 1, 20, 63, 64, 65, 200} {
		key, b := anyBytes(r, n), anyBytes(r, 150)
		tag := tagged(key, b)
		if !mac.Check(key, tag, b) || !mac.Check(key, tag, pieces(r, b)...) || !mac.Check(key, tag, nil, b[:70], b[70:]) {
			t.Error(n, "is no tag")
		}
		for i := range 8 * len(tag) {
			other := bytes.Clone(tag)
			other[i/8] ^= 1 << (i % 8)
			if mac.Check(key, other, b) {
				t.Error(n, "also with another bit", i)
			}
		}
		for cut := range tag {
			if mac.Check(key, tag[:cut], b) || mac.Check(key, tag[cut+1:], b) {
				t.Error(n, "also cut", cut)
			}
		}
		for name, other := range map[string][]byte{
			"with a zero byte": append(bytes.Clone(tag), 0), "with a byte ahead": append([]byte{0}, tag...), "twice": append(bytes.Clone(tag), tag...),
			"of zeros": make([]byte, 32), "nil": nil, "empty": {}, "the digest": digest(b), "256 bytes more": append(bytes.Clone(tag), make([]byte, 256)...),
		} {
			if mac.Check(key, other, b) {
				t.Error(n, "also", name)
			}
		}
		if mac.Check(append([]byte{1}, key...), tag, b) || mac.Check(b, tag, b) || mac.Check(key, tag, b[1:]) || mac.Check(key, tag, b, b) || mac.Check(key, tag) {
			t.Error(n, "also by another key or of other bytes")
		}
	}
	if none := tagged(nil, nil); !mac.Check(nil, none) || !mac.Check([]byte{}, none, nil) || mac.Check(nil, nil) || mac.Check(nil, []byte{}) {
		t.Error("nothing")
	}
}

// P12.1: each few bytes against each other, and longer ones that differ in one or two bytes.
func TestSame(t *testing.T) {
	few := [][]byte{nil, {}, {0}, {1}, {128}, {255}, {0, 0}, {0, 1}, {1, 0}, {1, 1}, {1, 255}, {128, 128}, {0, 0, 0}, {1, 1, 0}, make([]byte, 256), make([]byte, 257)}
	for _, a := range few {
		for _, b := range few {
			if got := mac.Same(a, b); got != (string(a) == string(b)) {
				t.Error(a, b, got)
			}
		}
	}
	r := rand.New(rand.NewSource(4))
	for range 2000 {
		a := anyBytes(r, 1+r.Intn(70))
		b := bytes.Clone(a)
		if !mac.Same(a, b) || !mac.Same(a, a) {
			t.Error(a)
		}
		by := byte(1 + r.Intn(255))
		b[r.Intn(len(b))] ^= by // the same change at two places, or none if it is one place
		b[r.Intn(len(b))] ^= by
		if got := mac.Same(a, b); got != bytes.Equal(a, b) {
			t.Error(a, b, got)
		}
		if mac.Same(a, a[1:]) || mac.Same(a[:len(a)-1], a) || mac.Same(a, append(bytes.Clone(a), 0)) {
			t.Error(a, "and one byte more or less")
		}
	}
}

// Example 1 of the chapter, and those of FIPS 180-4 and RFC 4231.
func TestExamples(t *testing.T) {
	for _, c := range []struct {
		got  [32]byte
		want string
	}{
		{mac.Sum(), "e3b0c44298fc1c149afbf4c8996fb92427ae41e4649b934ca495991b7852b855"},
		{mac.Sum([]byte("a"), []byte("bc")), "ba7816bf8f01cfea414140de5dae2223b00361a396177a9cb410ff61f20015ad"},
		{mac.Tag(bytes.Repeat([]byte{0x0b}, 20), []byte("Hi There")), "b0344c61d8db38535ca8afceaf0bf12b881dc200c9833da726e9376c2e32cff7"},
		{mac.Tag([]byte("Jefe"), []byte("what do ya want for nothing?")), "5bdcc146bf60754e6a042426089575c75a003f089d2739839dec58b964ec3843"},
	} {
		if got := octet.Hex(c.got[:]); got != c.want {
			t.Error(got, c.want)
		}
	}
}

// P12.3: arguments are not changed, not even behind their ends.
func TestMemory(t *testing.T) {
	for name, f := range map[string]func(l [][]byte){
		"Sum":         func(l [][]byte) { mac.Sum(l...) },
		"Tag":         func(l [][]byte) { mac.Tag(l[0], l...) },
		"Tag of long": func(l [][]byte) { mac.Tag(l[2], l...) },
		"Check":       func(l [][]byte) { mac.Check(l[0], l[1], l...) },
		"Check true":  func(l [][]byte) { mac.Check(l[0], tagged(l[0], l[1]), l[1]) },
		"Same":        func(l [][]byte) { mac.Same(l[0], l[1]); mac.Same(l[1], l[3]) },
		"Put":         func(l [][]byte) { h := mac.New(); h.Put(l...); h.Put(l[0]); h.Sum() },
	} {
		array := anyBytes(rand.New(rand.NewSource(5)), 400)
		all := [][]byte{array[:20], array[30:62], array[70:150], array[160:192], nil, array[:0], array[200:300], array[390:]}
		before, begins := bytes.Clone(array), slices.Clone(all)
		f(all[:len(all)-1])
		if !bytes.Equal(array, before) {
			t.Error(name, "changes bytes")
		}
		for i, b := range all {
			if len(b) != len(begins[i]) || len(b) > 0 && &b[0] != &begins[i][0] {
				t.Error(name, "changes the list")
			}
		}
	}
}
