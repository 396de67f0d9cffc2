// Package sha is layer 1, SHA-256: see shared/doc/01-sha.md.
package sha

import "math/bits"

const (
	blockSize = 64
	lengthAt  = 56 // where the padding's length stands in its block
)

// rounds are the first 32 bits of the fractional parts of the cube roots of the first 64 primes.
var rounds = [64]uint32{
	0x428a2f98, 0x71374491, 0xb5c0fbcf, 0xe9b5dba5, 0x3956c25b, 0x59f111f1, 0x923f82a4, 0xab1c5ed5,
	0xd807aa98, 0x12835b01, 0x243185be, 0x550c7dc3, 0x72be5d74, 0x80deb1fe, 0x9bdc06a7, 0xc19bf174,
	0xe49b69c1, 0xefbe4786, 0x0fc19dc6, 0x240ca1cc, 0x2de92c6f, 0x4a7484aa, 0x5cb0a9dc, 0x76f988da,
	0x983e5152, 0xa831c66d, 0xb00327c8, 0xbf597fc7, 0xc6e00bf3, 0xd5a79147, 0x06ca6351, 0x14292967,
	0x27b70a85, 0x2e1b2138, 0x4d2c6dfc, 0x53380d13, 0x650a7354, 0x766a0abb, 0x81c2c92e, 0x92722c85,
	0xa2bfe8a1, 0xa81a664b, 0xc24b8b70, 0xc76c51a3, 0xd192e819, 0xd6990624, 0xf40e3585, 0x106aa070,
	0x19a4c116, 0x1e376c08, 0x2748774c, 0x34b0bcb5, 0x391c0cb3, 0x4ed8aa4a, 0x5b9cca4f, 0x682e6ff3,
	0x748f82ee, 0x78a5636f, 0x84c87814, 0x8cc70208, 0x90befffa, 0xa4506ceb, 0xbef9a3f7, 0xc67178f2,
}

// start are the first 32 bits of the fractional parts of the square roots of the first 8 primes.
var start = [8]uint32{
	0x6a09e667, 0xbb67ae85, 0x3c6ef372, 0xa54ff53a, 0x510e527f, 0x9b05688c, 0x1f83d9ab, 0x5be0cd19,
}

// Hash is a sum on the way. A zero one is of no bytes yet.
type Hash struct {
	length uint64          // of all that was written
	state  [8]uint32       // behind the last whole block; before the first one it says nothing, so that a zero hash needs no start
	block  [blockSize]byte // the one that is being filled
}

// New is one of no bytes yet.
func New() *Hash { return &Hash{} }

// Write lays parts behind what was written.
func (h *Hash) Write(parts ...string) {
	if h == nil {
		return
	}
	for _, part := range parts {
		h.fill(part)
	}
}

// Sum is that of all that was written.
func (h *Hash) Sum() [32]byte {
	if h == nil {
		return Sum()
	}
	padded := *h // a copy: h may be written on
	padded.pad()
	return spread(padded.state)
}

// Sum is that of parts, one behind the other.
func Sum(parts ...string) [32]byte {
	h := New()
	h.Write(parts...)
	return h.Sum()
}

// Join is the sum of the bytes of sums, one behind the other.
func Join(l ...[32]byte) [32]byte {
	h := New()
	for _, sum := range l {
		h.fill(string(sum[:]))
	}
	return h.Sum()
}

// Text is a sum in hexadecimal digits.
func Text(sum [32]byte) string {
	const digits = "0123456789abcdef"
	var text [64]byte
	for i, b := range sum {
		text[2*i] = digits[b>>4]
		text[2*i+1] = digits[b&15]
	}
	return string(text[:])
}

func (h *Hash) fill(part string) {
	for len(part) > 0 {
		n := copy(h.block[h.length%blockSize:], part)
		part = part[n:]
		h.advance(n)
	}
}

func (h *Hash) pad() {
	size := h.length * 8
	h.put(0x80)
	for h.length%blockSize != lengthAt {
		h.put(0)
	}
	for shift := 56; shift >= 0; shift -= 8 {
		h.put(byte(size >> shift))
	}
}

func (h *Hash) put(b byte) {
	h.block[h.length%blockSize] = b
	h.advance(1)
}

// advance counts n bytes that were laid into the block, and mixes the block in once it is whole.
func (h *Hash) advance(n int) {
	h.length += uint64(n)
	if h.length%blockSize != 0 {
		return
	}
	if h.length == blockSize {
		h.state = start
	}
	h.state = mix(h.state, h.block)
}

// mix is the state behind a block. Its rounds work on eight variables, not on an array: they are called most of all, and so run three times as fast.
func mix(state [8]uint32, block [blockSize]byte) [8]uint32 {
	words := expand(block)
	a, b, c, d, e, f, g, h := state[0], state[1], state[2], state[3], state[4], state[5], state[6], state[7]
	for t := range 64 {
		t1 := h + bigSigma1(e) + choose(e, f, g) + rounds[t] + words[t]
		t2 := bigSigma0(a) + majority(a, b, c)
		a, b, c, d, e, f, g, h = t1+t2, a, b, c, d+t1, e, f, g
	}
	for i, word := range [8]uint32{a, b, c, d, e, f, g, h} {
		state[i] += word
	}
	return state
}

// expand is a block's 16 words, and the 48 that follow from them.
func expand(block [blockSize]byte) [64]uint32 {
	var w [64]uint32
	for i, b := range block {
		w[i/4] = w[i/4]<<8 | uint32(b)
	}
	for t := 16; t < 64; t++ {
		w[t] = smallSigma1(w[t-2]) + w[t-7] + smallSigma0(w[t-15]) + w[t-16]
	}
	return w
}

func spread(state [8]uint32) [32]byte {
	var sum [32]byte
	for i, word := range state {
		sum[4*i] = byte(word >> 24)
		sum[4*i+1] = byte(word >> 16)
		sum[4*i+2] = byte(word >> 8)
		sum[4*i+3] = byte(word)
	}
	return sum
}

func rot(x uint32, n int) uint32 { return bits.RotateLeft32(x, -n) }

func smallSigma0(x uint32) uint32 { return rot(x, 7) ^ rot(x, 18) ^ x>>3 }
func smallSigma1(x uint32) uint32 { return rot(x, 17) ^ rot(x, 19) ^ x>>10 }
func bigSigma0(x uint32) uint32   { return rot(x, 2) ^ rot(x, 13) ^ rot(x, 22) }
func bigSigma1(x uint32) uint32   { return rot(x, 6) ^ rot(x, 11) ^ rot(x, 25) }

func choose(x, y, z uint32) uint32   { return x&y ^ ^x&z }
func majority(x, y, z uint32) uint32 { return x&y ^ x&z ^ y&z }
