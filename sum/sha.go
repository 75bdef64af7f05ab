package sum

import "math/bits"

const (
	block      = 64 // bytes that are mixed in at a time
	blockWords = block / wordBytes
	rounds     = 64
	wordBytes  = 4
	countBytes = 8
	stateWords = 8
)

// state is the eight words a to h.
type state [stateWords]uint32

var first = state{0x6a09e667, 0xbb67ae85, 0x3c6ef372, 0xa54ff53a, 0x510e527f, 0x9b05688c, 0x1f83d9ab, 0x5be0cd19}

// roots: of the first 64 primes the first 32 bits behind the point of their cube roots.
var roots = [rounds]uint32{
	0x428a2f98, 0x71374491, 0xb5c0fbcf, 0xe9b5dba5, 0x3956c25b, 0x59f111f1, 0x923f82a4, 0xab1c5ed5,
	0xd807aa98, 0x12835b01, 0x243185be, 0x550c7dc3, 0x72be5d74, 0x80deb1fe, 0x9bdc06a7, 0xc19bf174,
	0xe49b69c1, 0xefbe4786, 0x0fc19dc6, 0x240ca1cc, 0x2de92c6f, 0x4a7484aa, 0x5cb0a9dc, 0x76f988da,
	0x983e5152, 0xa831c66d, 0xb00327c8, 0xbf597fc7, 0xc6e00bf3, 0xd5a79147, 0x06ca6351, 0x14292967,
	0x27b70a85, 0x2e1b2138, 0x4d2c6dfc, 0x53380d13, 0x650a7354, 0x766a0abb, 0x81c2c92e, 0x92722c85,
	0xa2bfe8a1, 0xa81a664b, 0xc24b8b70, 0xc76c51a3, 0xd192e819, 0xd6990624, 0xf40e3585, 0x106aa070,
	0x19a4c116, 0x1e376c08, 0x2748774c, 0x34b0bcb5, 0x391c0cb3, 0x4ed8aa4a, 0x5b9cca4f, 0x682e6ff3,
	0x748f82ee, 0x78a5636f, 0x84c87814, 0x8cc70208, 0x90befffa, 0xa4506ceb, 0xbef9a3f7, 0xc67178f2,
}

// mixed takes in a block of 64 bytes.
func (s state) mixed(p []byte) state {
	w := schedule(p)
	v := s
	for i := range rounds {
		t1, t2 := v.turns(roots[i] + w[i])
		// Each word goes one place on: b is the old a, and so on to h.
		copy(v[1:], v[:stateWords-1])
		v[4] += t1
		v[0] = t1 + t2
	}
	for i := range s {
		s[i] += v[i]
	}
	return s
}

// turns answers t1 and t2 of one round, of which more is k(i) + wi.
func (s state) turns(more uint32) (uint32, uint32) {
	a, b, c, e, f, g, h := s[0], s[1], s[2], s[4], s[5], s[6], s[7]
	t1 := h + (turned(e, 6) ^ turned(e, 11) ^ turned(e, 25)) + (e&f ^ ^e&g) + more
	t2 := (turned(a, 2) ^ turned(a, 13) ^ turned(a, 22)) + (a&b ^ a&c ^ b&c)
	return t1, t2
}

// schedule answers the words w0 to w63 of a block.
func schedule(p []byte) [rounds]uint32 {
	var w [rounds]uint32
	for i := range blockWords {
		w[i] = word(p[i*wordBytes:])
	}
	for i := blockWords; i < rounds; i++ {
		far, near := w[i-15], w[i-2]
		s0 := turned(far, 7) ^ turned(far, 18) ^ far>>3
		s1 := turned(near, 17) ^ turned(near, 19) ^ near>>10
		w[i] = w[i-16] + s0 + w[i-7] + s1
	}
	return w
}

// turned: to the right, the bits that fall out coming in on the left.
func turned(x uint32, by int) uint32 { return bits.RotateLeft32(x, -by) }

// word answers the first four bytes, the highest first.
func word(p []byte) uint32 {
	return uint32(p[0])<<24 | uint32(p[1])<<16 | uint32(p[2])<<8 | uint32(p[3])
}

// ending answers the last block, or two where one has no room for the count:
// what is left of the bytes, and what is laid behind count bytes in all.
func ending(left []byte, count int) []byte {
	size := block
	if len(left)+1+countBytes > block {
		size += block
	}
	tail := make([]byte, size)
	copy(tail, left)
	tail[len(left)] = 0x80
	bitCount := uint64(count) * bitsOfByte
	for i := range countBytes {
		tail[size-1-i] = byte(bitCount >> (bitsOfByte * i))
	}
	return tail
}

// bytes: of the eight words, the highest byte first.
func (s state) bytes() [stateWords * wordBytes]byte {
	var out [stateWords * wordBytes]byte
	for i, w := range s {
		for j := range wordBytes {
			out[i*wordBytes+j] = byte(w >> (bitsOfByte * (wordBytes - 1 - j)))
		}
	}
	return out
}
