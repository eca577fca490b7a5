package field

import "math/bits"

// The words of the prime, 2^255 - 19: the lowest one, the two between, and the
// highest one.
const (
	lowest = 1<<64 - 19
	full   = 1<<64 - 1
	top    = 1<<63 - 1
)

// below tells x modulo p, of an x below 2p.
func below(x E) E {
	// x isn't below p just if x + 19 isn't below 2^255, and x less p is then that
	// without its highest bit. What is done is the same, whichever it is.
	y := sum(x, E{w0: 19})
	keep := y.w3>>63 - 1
	return E{
		x.w0&keep | y.w0&^keep,
		x.w1&keep | y.w1&^keep,
		x.w2&keep | y.w2&^keep,
		x.w3&keep | y.w3&top&^keep,
	}
}

// sum tells x and y, which are below 2^256 together.
func sum(x, y E) E {
	var carry uint64
	x.w0, carry = bits.Add64(x.w0, y.w0, 0)
	x.w1, carry = bits.Add64(x.w1, y.w1, carry)
	x.w2, carry = bits.Add64(x.w2, y.w2, carry)
	x.w3 += y.w3 + carry
	return x
}

// missing tells p less x, of an x that isn't above p.
func missing(x E) E {
	var borrow uint64
	x.w0, borrow = bits.Sub64(lowest, x.w0, 0)
	x.w1, borrow = bits.Sub64(full, x.w1, borrow)
	x.w2, borrow = bits.Sub64(full, x.w2, borrow)
	x.w3 = top - x.w3 - borrow
	return x
}

// product tells x times y, in its lower and its upper four words.
func product(x, y E) (lower, upper E) {
	lower.w0, upper = row(x.w0, y, upper)
	lower.w1, upper = row(x.w1, y, upper)
	lower.w2, upper = row(x.w2, y, upper)
	lower.w3, upper = row(x.w3, y, upper)
	return lower, upper
}

// folded tells a number of a lower and an upper four words, modulo p.
func folded(lower, upper E) E {
	// 2^256 is 38 modulo p, and 2^255 is 19: first the upper words are folded onto
	// the lower ones, then all that is beyond 255 bits, which is so little that what
	// comes of it is below 2p.
	x0, x := row(38, upper, lower)
	beyond := x.w3<<1 | x.w2>>63
	return below(sum(E{x0, x.w0, x.w1, x.w2 & top}, E{w0: 19 * beyond}))
}

// row tells x times y, and more, in the lowest word and the four above it.
func row(x uint64, y, more E) (uint64, E) {
	high0, low0 := bits.Mul64(x, y.w0)
	high1, low1 := bits.Mul64(x, y.w1)
	high2, low2 := bits.Mul64(x, y.w2)
	high3, low3 := bits.Mul64(x, y.w3)
	low1, carry := bits.Add64(low1, high0, 0)
	low2, carry = bits.Add64(low2, high1, carry)
	low3, carry = bits.Add64(low3, high2, carry)
	high3 += carry
	low0, carry = bits.Add64(low0, more.w0, 0)
	low1, carry = bits.Add64(low1, more.w1, carry)
	low2, carry = bits.Add64(low2, more.w2, carry)
	low3, carry = bits.Add64(low3, more.w3, carry)
	return low0, E{low1, low2, low3, high3 + carry}
}
