package digest

import (
	"math/bits"

	"admission/api"
)

const (
	blockSize = 64 // bytes that the hash takes in at once
	rounds    = 64
	tailSize  = 8 // bytes of the message's length at the end of the last block
)

// roundConstants are the first 32 bits of the fractional parts of the cube roots of the first 64 primes.
var roundConstants = [rounds]uint32{
	0x428a2f98, 0x71374491, 0xb5c0fbcf, 0xe9b5dba5, 0x3956c25b, 0x59f111f1, 0x923f82a4, 0xab1c5ed5,
	0xd807aa98, 0x12835b01, 0x243185be, 0x550c7dc3, 0x72be5d74, 0x80deb1fe, 0x9bdc06a7, 0xc19bf174,
	0xe49b69c1, 0xefbe4786, 0x0fc19dc6, 0x240ca1cc, 0x2de92c6f, 0x4a7484aa, 0x5cb0a9dc, 0x76f988da,
	0x983e5152, 0xa831c66d, 0xb00327c8, 0xbf597fc7, 0xc6e00bf3, 0xd5a79147, 0x06ca6351, 0x14292967,
	0x27b70a85, 0x2e1b2138, 0x4d2c6dfc, 0x53380d13, 0x650a7354, 0x766a0abb, 0x81c2c92e, 0x92722c85,
	0xa2bfe8a1, 0xa81a664b, 0xc24b8b70, 0xc76c51a3, 0xd192e819, 0xd6990624, 0xf40e3585, 0x106aa070,
	0x19a4c116, 0x1e376c08, 0x2748774c, 0x34b0bcb5, 0x391c0cb3, 0x4ed8aa4a, 0x5b9cca4f, 0x682e6ff3,
	0x748f82ee, 0x78a5636f, 0x84c87814, 0x8cc70208, 0x90befffa, 0xa4506ceb, 0xbef9a3f7, 0xc67178f2,
}

// hash is the state of a SHA-256 computation: the first used bytes of rest wait for their block to be full.
type hash struct {
	words  [8]uint32
	rest   [blockSize]byte
	used   int
	length uint64
}

func newHash() hash {
	return hash{words: [8]uint32{
		0x6a09e667, 0xbb67ae85, 0x3c6ef372, 0xa54ff53a, 0x510e527f, 0x9b05688c, 0x1f83d9ab, 0x5be0cd19,
	}}
}

// write appends b to the message.
func (h *hash) write(b []byte) {
	h.length += uint64(len(b))
	if h.used > 0 {
		n := copy(h.rest[h.used:], b)
		h.used += n
		if h.used < blockSize {
			return
		}
		h.addBlock(h.rest[:])
		b = b[n:]
	}
	for len(b) >= blockSize {
		h.addBlock(b[:blockSize])
		b = b[blockSize:]
	}
	h.used = copy(h.rest[:], b)
}

// finish pads the message and returns its digest.
func (h *hash) finish() api.Digest {
	h.rest[h.used] = 0x80
	clear(h.rest[h.used+1:])
	if h.used >= blockSize-tailSize {
		h.addBlock(h.rest[:])
		clear(h.rest[:])
	}
	length := 8 * h.length
	for i := range tailSize {
		h.rest[blockSize-1-i] = byte(length >> (8 * i))
	}
	h.addBlock(h.rest[:])
	return h.digest()
}

func (h *hash) digest() api.Digest {
	var d api.Digest
	for i, w := range h.words {
		d[4*i] = byte(w >> 24)
		d[4*i+1] = byte(w >> 16)
		d[4*i+2] = byte(w >> 8)
		d[4*i+3] = byte(w)
	}
	return d
}

// addBlock is the compression function of SHA-256, with the names of FIPS 180-4. Its working values are variables, and not an array, because they stay in registers then.
func (h *hash) addBlock(block []byte) {
	s := &h.words
	w := schedule(block)
	a, b, c, d, e, f, g, k := s[0], s[1], s[2], s[3], s[4], s[5], s[6], s[7]
	for i := range rounds {
		t1 := k + mix(e, 6, 11, 25) + choose(e, f, g) + roundConstants[i] + w[i]
		t2 := mix(a, 2, 13, 22) + majority(a, b, c)
		a, b, c, d, e, f, g, k = t1+t2, a, b, c, d+t1, e, f, g
	}
	s[0] += a
	s[1] += b
	s[2] += c
	s[3] += d
	s[4] += e
	s[5] += f
	s[6] += g
	s[7] += k
}

// schedule returns the words of the rounds of a block.
func schedule(block []byte) [rounds]uint32 {
	var w [rounds]uint32
	for i := range 16 {
		b := block[4*i : 4*i+4]
		w[i] = uint32(b[0])<<24 | uint32(b[1])<<16 | uint32(b[2])<<8 | uint32(b[3])
	}
	for i := 16; i < rounds; i++ {
		x, y := w[i-15], w[i-2]
		low := bits.RotateLeft32(x, -7) ^ bits.RotateLeft32(x, -18) ^ x>>3
		high := bits.RotateLeft32(y, -17) ^ bits.RotateLeft32(y, -19) ^ y>>10
		w[i] = w[i-16] + low + w[i-7] + high
	}
	return w
}

// mix returns the exclusive or of x rotated to the right by i, j and k.
func mix(x uint32, i, j, k int) uint32 {
	return bits.RotateLeft32(x, -i) ^ bits.RotateLeft32(x, -j) ^ bits.RotateLeft32(x, -k)
}

// choose takes each bit from y where x is set, and from z where it is not.
func choose(x, y, z uint32) uint32 { return x&y ^ ^x&z }

// majority returns the bits that at least two of x, y and z have.
func majority(x, y, z uint32) uint32 { return x&y ^ x&z ^ y&z }
