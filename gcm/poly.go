package gcm

import "slices"

const (
	blockSize = 16
	wordBits  = 64

	// folded is what x^128 comes to: x^7 + x^2 + x + 1, the factor of 1 highest.
	folded = 0xe1 << (wordBits - 8)
)

// poly is a block as a polynomial. The highest bit of first is the factor of 1, the
// lowest one of last that of x^127.
type poly struct {
	first, last uint64
}

// polyOf tells the polynomial of up to 16 bytes, with 0 behind them to a whole block.
func polyOf(b []byte) poly {
	var block [blockSize]byte
	copy(block[:], b)
	return poly{word(block[:blockSize/2]), word(block[blockSize/2:])}
}

// word tells the number of 8 bytes, the highest first.
func word(b []byte) uint64 {
	var n uint64
	for _, x := range b {
		n = n<<8 | uint64(x)
	}
	return n
}

// bytes tells the block of p.
func (p poly) bytes() []byte {
	b := make([]byte, blockSize)
	for i := range blockSize / 2 {
		shift := wordBits - 8*(i+1)
		b[i] = byte(p.first >> shift)
		b[i+blockSize/2] = byte(p.last >> shift)
	}
	return b
}

// plus tells the sum of p and q.
func (p poly) plus(q poly) poly {
	return poly{p.first ^ q.first, p.last ^ q.last}
}

// only tells p if a bit is 1, and 0 if it is 0.
func (p poly) only(bit uint64) poly {
	return poly{p.first & -bit, p.last & -bit}
}

// next tells p with each factor at the next higher power: p, multiplied by x.
func (p poly) next() poly {
	beyond := p.last & 1
	return poly{p.first>>1 ^ folded&-beyond, p.last>>1 | p.first<<(wordBits-1)}
}

// times tells the product of p and q. What is done is the same whatever bits they
// have, since a key comes to one of them.
func (p poly) times(q poly) poly {
	var sum poly
	left := 2 * wordBits
shift:
	sum = sum.plus(q.only(p.first >> (wordBits - 1)))
	p.first, p.last = p.first<<1|p.last>>(wordBits-1), p.last<<1
	q = q.next()
	left--
	if left > 0 {
		goto shift
	}
	return sum
}

// with tells p, held against each block of b in a row and multiplied by h each time.
func (p poly) with(b []byte, h poly) poly {
	for block := range slices.Chunk(b, blockSize) {
		p = p.plus(polyOf(block)).times(h)
	}
	return p
}
