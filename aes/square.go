package aes

import "math/bits"

const (
	// side is how many columns a block has, and how many bytes a column.
	side      = 4
	blockSize = side * side

	rounds = 10
)

// square is a block's columns, or four words of a key. A column's first byte, as a
// word's, is its lowest one.
type square [side]uint32

// squareOf tells the square of 16 bytes.
func squareOf(b []byte) square {
	var s square
	for i, x := range b {
		s[i/side] |= uint32(x) << (byteBits * (i % side))
	}
	return s
}

// bytes tells the 16 bytes of s.
func (s square) bytes() []byte {
	b := make([]byte, blockSize)
	for i := range b {
		b[i] = byte(s[i/side] >> (byteBits * (i % side)))
	}
	return b
}

// words tells a key's words: its own four, and four for each round.
func words(key []byte) [rounds + 1]square {
	w := [rounds + 1]square{squareOf(key)}
	power := uint64(1)
	for n := range rounds {
		w[n+1] = w[n].next(uint32(power))
		power = doubled(power)
	}
	return w
}

// next tells the four words behind those of s, by a power of x.
func (s square) next(power uint32) square {
	last := bits.RotateLeft32(s[side-1], -byteBits)
	t := uint32(boxed(uint64(last))) ^ power
	for i := range s {
		t ^= s[i]
		s[i] = t
	}
	return s
}

// sealed tells a block that has gone through all rounds, by a key's words.
func sealed(w [rounds + 1]square, s square) square {
	s = s.against(w[0])
	n := 1
round:
	s = s.boxed().turned()
	if n == rounds {
		return s.against(w[n])
	}
	s = s.mixed().against(w[n])
	n++
	goto round
}

// against tells s held against w.
func (s square) against(w square) square {
	for i := range s {
		s[i] ^= w[i]
	}
	return s
}

// boxed tells s with each byte put through the box.
func (s square) boxed() square {
	for i := 0; i < side; i += 2 {
		two := boxed(uint64(s[i]) | uint64(s[i+1])<<32)
		s[i], s[i+1] = uint32(two), uint32(two>>32)
	}
	return s
}

// turned tells s with each row turned to the front, by none, one, two and three
// columns.
func (s square) turned() square {
	var t square
	for i := range t {
		for row := range side {
			t[i] |= s[(i+row)%side] & (0xff << (byteBits * row))
		}
	}
	return t
}

// mixed tells s with each column mixed.
func (s square) mixed() square {
	for i, a := range s {
		b := bits.RotateLeft32(a, -byteBits)
		c := bits.RotateLeft32(a, -2*byteBits)
		d := bits.RotateLeft32(a, -3*byteBits)
		// 2a + 3b is 2(a + b) + b.
		s[i] = uint32(doubled(uint64(a^b))) ^ b ^ c ^ d
	}
	return s
}
