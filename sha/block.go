package sha

import "math/bits"

const (
	blockSize = 64
	wordSize  = 4
	countSize = 8
	mark      = 128
)

// beginnings are the first 32 bits behind the point of the square roots of
// the first 8 primes.
var beginnings = [8]uint32{
	0x6a09e667, 0xbb67ae85, 0x3c6ef372, 0xa54ff53a, 0x510e527f, 0x9b05688c, 0x1f83d9ab, 0x5be0cd19,
}

// constants are those of the cube roots of the first 64.
var constants = [64]uint32{
	0x428a2f98, 0x71374491, 0xb5c0fbcf, 0xe9b5dba5, 0x3956c25b, 0x59f111f1, 0x923f82a4, 0xab1c5ed5,
	0xd807aa98, 0x12835b01, 0x243185be, 0x550c7dc3, 0x72be5d74, 0x80deb1fe, 0x9bdc06a7, 0xc19bf174,
	0xe49b69c1, 0xefbe4786, 0x0fc19dc6, 0x240ca1cc, 0x2de92c6f, 0x4a7484aa, 0x5cb0a9dc, 0x76f988da,
	0x983e5152, 0xa831c66d, 0xb00327c8, 0xbf597fc7, 0xc6e00bf3, 0xd5a79147, 0x06ca6351, 0x14292967,
	0x27b70a85, 0x2e1b2138, 0x4d2c6dfc, 0x53380d13, 0x650a7354, 0x766a0abb, 0x81c2c92e, 0x92722c85,
	0xa2bfe8a1, 0xa81a664b, 0xc24b8b70, 0xc76c51a3, 0xd192e819, 0xd6990624, 0xf40e3585, 0x106aa070,
	0x19a4c116, 0x1e376c08, 0x2748774c, 0x34b0bcb5, 0x391c0cb3, 0x4ed8aa4a, 0x5b9cca4f, 0x682e6ff3,
	0x748f82ee, 0x78a5636f, 0x84c87814, 0x8cc70208, 0x90befffa, 0xa4506ceb, 0xbef9a3f7, 0xc67178f2,
}

// through goes through the whole blocks of b, and tells the state behind them
// and the bytes that are left.
func through(state [8]uint32, b []byte) ([8]uint32, []byte) {
next:
	if len(b) < blockSize {
		return state, b
	}
	state, b = mixed(state, b[:blockSize]), b[blockSize:]
	goto next
}

// closed tells the digest of length bytes, of which rest are those behind the
// whole blocks, and state is what these came to.
func closed(state [8]uint32, rest []byte, length int) [32]byte {
	last := append(make([]byte, 0, 2*blockSize), rest...)
	last = append(last, mark)
	for len(last)%blockSize != blockSize-countSize {
		last = append(last, 0)
	}
	count := 8 * uint64(length)
	for shift := 8 * (countSize - 1); shift >= 0; shift -= 8 {
		last = append(last, byte(count>>shift))
	}
	state, _ = through(state, last)
	return spread(state)
}

// spread tells each word in 4 bytes, the highest first.
func spread(state [8]uint32) [32]byte {
	var d [32]byte
	for i, word := range state {
		d[wordSize*i] = byte(word >> 24)
		d[wordSize*i+1] = byte(word >> 16)
		d[wordSize*i+2] = byte(word >> 8)
		d[wordSize*i+3] = byte(word)
	}
	return d
}

// mixed tells the state behind a block.
func mixed(state [8]uint32, block []byte) [8]uint32 {
	w := words(block)
	a, b, c, d := state[0], state[1], state[2], state[3]
	e, f, g, h := state[4], state[5], state[6], state[7]
	for t := range w {
		t1 := h + (right(e, 6) ^ right(e, 11) ^ right(e, 25)) + choice(e, f, g) + constants[t] + w[t]
		t2 := (right(a, 2) ^ right(a, 13) ^ right(a, 22)) + majority(a, b, c)
		h, g, f, e = g, f, e, d+t1
		d, c, b, a = c, b, a, t1+t2
	}
	for i, word := range [8]uint32{a, b, c, d, e, f, g, h} {
		state[i] += word
	}
	return state
}

// words tells a block's 16 words, gone on to 64.
func words(block []byte) [64]uint32 {
	var w [64]uint32
	for t := range blockSize / wordSize {
		p := block[wordSize*t : wordSize*t+wordSize]
		w[t] = uint32(p[0])<<24 | uint32(p[1])<<16 | uint32(p[2])<<8 | uint32(p[3])
	}
	for t := blockSize / wordSize; t < len(w); t++ {
		x, y := w[t-15], w[t-2]
		s0 := right(x, 7) ^ right(x, 18) ^ x>>3
		s1 := right(y, 17) ^ right(y, 19) ^ y>>10
		w[t] = s1 + w[t-7] + s0 + w[t-16]
	}
	return w
}

// right turns x right by n bits.
func right(x uint32, n int) uint32 {
	return bits.RotateLeft32(x, -n)
}

// choice takes f's bits where e's are set, else g's.
func choice(e, f, g uint32) uint32 {
	return e&f ^ ^e&g
}

// majority has the bits that most of a, b and c have.
func majority(a, b, c uint32) uint32 {
	return a&b ^ a&c ^ b&c
}
