package scalar

import "math/bits"

// The words of L, the lowest first, without the third one, which is 0.
const (
	order0 = 0x5812631a5cf5d3ed
	order1 = 0x14def9dea2f79cd6
	order3 = 1 << 60
)

// order tells L, which is no scalar itself.
func order() S {
	return S{w0: order0, w1: order1, w3: order3}
}

// times tells the number of b, the lowest byte first, times a, modulo L.
func (a S) times(b []byte) S {
	// What is left of the higher bits is shifted by one bit at a time, so that it
	// never has more than four words. A scalar may be a secret: what is done is the
	// same, whether a bit is set or not.
	var left S
	at := 8 * len(b)
lower:
	if at == 0 {
		return left
	}
	at--
	left = left.Add(left)
	bit := uint64(b[at/8] >> (at % 8) & 1)
	left = left.Add(a.only(-bit))
	goto lower
}

// below tells x modulo L, of an x below 2L.
func below(x S) S {
	// What is done is the same, whichever is told, x or x less L.
	less, missing := difference(x, order())
	return sum(x.only(-missing), less.only(missing-1))
}

// sum tells x and y, which are below 2^256 together.
func sum(x, y S) S {
	var carry uint64
	x.w0, carry = bits.Add64(x.w0, y.w0, 0)
	x.w1, carry = bits.Add64(x.w1, y.w1, carry)
	x.w2, carry = bits.Add64(x.w2, y.w2, carry)
	x.w3 += y.w3 + carry
	return x
}

// difference tells x less y modulo 2^256, and 1 if x is below y, or else 0.
func difference(x, y S) (S, uint64) {
	var missing uint64
	x.w0, missing = bits.Sub64(x.w0, y.w0, 0)
	x.w1, missing = bits.Sub64(x.w1, y.w1, missing)
	x.w2, missing = bits.Sub64(x.w2, y.w2, missing)
	x.w3, missing = bits.Sub64(x.w3, y.w3, missing)
	return x, missing
}

// only tells a without the bits that keep hasn't, in each word.
func (a S) only(keep uint64) S {
	return S{a.w0 & keep, a.w1 & keep, a.w2 & keep, a.w3 & keep}
}

// words tells a's words, the lowest first.
func (a S) words() [4]uint64 {
	return [4]uint64{a.w0, a.w1, a.w2, a.w3}
}
