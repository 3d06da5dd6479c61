package mac

import "math/bits"

// size is the number of bytes of a block.
const size = 64

// state is what the blocks are processed into.
type state [8]uint32

// start is of the square roots of the first primes.
var start = state{0x6a09e667, 0xbb67ae85, 0x3c6ef372, 0xa54ff53a, 0x510e527f, 0x9b05688c, 0x1f83d9ab, 0x5be0cd19}

// constants is of the cube roots of the first primes.
var constants = [64]uint32{
	0x428a2f98, 0x71374491, 0xb5c0fbcf, 0xe9b5dba5, 0x3956c25b, 0x59f111f1, 0x923f82a4, 0xab1c5ed5,
	0xd807aa98, 0x12835b01, 0x243185be, 0x550c7dc3, 0x72be5d74, 0x80deb1fe, 0x9bdc06a7, 0xc19bf174,
	0xe49b69c1, 0xefbe4786, 0x0fc19dc6, 0x240ca1cc, 0x2de92c6f, 0x4a7484aa, 0x5cb0a9dc, 0x76f988da,
	0x983e5152, 0xa831c66d, 0xb00327c8, 0xbf597fc7, 0xc6e00bf3, 0xd5a79147, 0x06ca6351, 0x14292967,
	0x27b70a85, 0x2e1b2138, 0x4d2c6dfc, 0x53380d13, 0x650a7354, 0x766a0abb, 0x81c2c92e, 0x92722c85,
	0xa2bfe8a1, 0xa81a664b, 0xc24b8b70, 0xc76c51a3, 0xd192e819, 0xd6990624, 0xf40e3585, 0x106aa070,
	0x19a4c116, 0x1e376c08, 0x2748774c, 0x34b0bcb5, 0x391c0cb3, 0x4ed8aa4a, 0x5b9cca4f, 0x682e6ff3,
	0x748f82ee, 0x78a5636f, 0x84c87814, 0x8cc70208, 0x90befffa, 0xa4506ceb, 0xbef9a3f7, 0xc67178f2,
}

// process adds what a block makes of the state to the state.
func (s *state) process(block [size]byte) {
	w := schedule(block)
	a, b, c, d, e, f, g, h := s[0], s[1], s[2], s[3], s[4], s[5], s[6], s[7]
	for i := range w {
		t := h + (turned(e, 6) ^ turned(e, 11) ^ turned(e, 25)) + (e&f ^ ^e&g) + constants[i] + w[i]
		u := (turned(a, 2) ^ turned(a, 13) ^ turned(a, 22)) + (a&b ^ a&c ^ b&c)
		a, b, c, d, e, f, g, h = t+u, a, b, c, d+t, e, f, g
	}
	for i, x := range (state{a, b, c, d, e, f, g, h}) {
		s[i] += x
	}
}

// schedule returns the words of a block and those that are made of them.
func schedule(block [size]byte) [64]uint32 {
	var w [64]uint32
	for i, x := range block {
		w[i/4] = w[i/4]<<8 | uint32(x)
	}
	for i := 16; i < len(w); i++ {
		x, y := w[i-15], w[i-2]
		s0 := turned(x, 7) ^ turned(x, 18) ^ x>>3
		s1 := turned(y, 17) ^ turned(y, 19) ^ y>>10
		w[i] = s1 + w[i-7] + s0 + w[i-16]
	}
	return w
}

// turned returns x rotated to the right by n.
func turned(x uint32, n int) uint32 { return bits.RotateLeft32(x, -n) }

// digest returns the bytes of the words.
func (s *state) digest() [32]byte {
	var out [32]byte
	for i := range out {
		out[i] = byte(s[i/4] >> (24 - i%4*8))
	}
	return out
}
