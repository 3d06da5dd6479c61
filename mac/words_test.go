package mac_test

import (
	"bytes"
	"encoding/binary"
	"math/big"
)

// primes returns the first n primes.
func primes(n int) []int64 {
	var l []int64
	for p := int64(2); len(l) < n; p++ {
		if big.NewInt(p).ProbablyPrime(0) {
			l = append(l, p)
		}
	}
	return l
}

// fraction tells the first 32 bits of the fractional part of the n-th root of p: the greatest number whose n-th power is at most p times 2 to the power of 32n, without what is above these bits.
func fraction(p, n int64) uint32 {
	limit := new(big.Int).Lsh(big.NewInt(p), uint(32*n))
	root := new(big.Int)
	for bit := 40; bit >= 0; bit-- {
		next := new(big.Int).SetBit(root, bit, 1)
		if new(big.Int).Exp(next, big.NewInt(n), nil).Cmp(limit) <= 0 {
			root = next
		}
	}
	return uint32(root.Uint64())
}

// fractions tells the words of the n-th roots of the first count primes.
func fractions(count int, n int64) []uint32 {
	var l []uint32
	for _, p := range primes(count) {
		l = append(l, fraction(p, n))
	}
	return l
}

var first, cubic = fractions(8, 2), fractions(64, 3)

// blocks tells in the chapter's words what the blocks of bytes are, one after another.
func blocks(b []byte) []byte {
	out := append(bytes.Clone(b), 128)
	for len(out)%64 != 56 {
		out = append(out, 0)
	}
	return binary.BigEndian.AppendUint64(out, uint64(len(b))*8)
}

func rotated(x uint32, n int) uint32 { return x>>n | x<<(32-n) }

// processed tells in the chapter's words what the state becomes by a block.
func processed(state []uint32, block []byte) []uint32 {
	var w [64]uint32
	for i := range 16 {
		w[i] = binary.BigEndian.Uint32(block[4*i:])
	}
	s0 := func(x uint32) uint32 { return rotated(x, 7) ^ rotated(x, 18) ^ x>>3 }
	s1 := func(x uint32) uint32 { return rotated(x, 17) ^ rotated(x, 19) ^ x>>10 }
	for i := 16; i < 64; i++ {
		w[i] = s1(w[i-2]) + w[i-7] + s0(w[i-15]) + w[i-16]
	}
	a, b, c, d, e, f, g, h := state[0], state[1], state[2], state[3], state[4], state[5], state[6], state[7]
	for i := range 64 {
		t := h + (rotated(e, 6) ^ rotated(e, 11) ^ rotated(e, 25)) + ((e & f) ^ (^e & g)) + cubic[i] + w[i]
		u := (rotated(a, 2) ^ rotated(a, 13) ^ rotated(a, 22)) + ((a & b) ^ (a & c) ^ (b & c))
		h = g
		g = f
		f = e
		e = d + t
		d = c
		c = b
		b = a
		a = t + u
	}
	return []uint32{state[0] + a, state[1] + b, state[2] + c, state[3] + d, state[4] + e, state[5] + f, state[6] + g, state[7] + h}
}

// digest tells the digest in the chapter's words.
func digest(b []byte) []byte {
	state := first
	for l := blocks(b); len(l) > 0; l = l[64:] {
		state = processed(state, l[:64])
	}
	var out []byte
	for _, x := range state {
		out = binary.BigEndian.AppendUint32(out, x)
	}
	return out
}

// tagged tells the tag in the chapter's words.
func tagged(key, b []byte) []byte {
	if len(key) > 64 {
		key = digest(key)
	}
	for len(key) < 64 {
		key = append(bytes.Clone(key), 0)
	}
	with := func(mask byte) []byte {
		var out []byte
		for _, x := range key {
			out = append(out, x^mask)
		}
		return out
	}
	return digest(append(with(0x5c), digest(append(with(0x36), b...))...))
}
