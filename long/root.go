package long

import "math/bits"

const (
	maxRooted = 1 << 20

	// No root is greater than 2^10, that of the greatest square; 64 bits more
	// are behind the point.
	topBit = 64 + 10
)

// wide is a number of 256 bits, its lowest word first. The third power of a
// number of 75 bits has room in it.
type wide [4]uint64

// Root tells the first 64 bits behind the point of n's square root (k 2) or
// cube root (k 3); of another k, or of an n above 2^20, 0.
func Root(n uint64, k int) uint64 {
	if n > maxRooted || k != 2 && k != 3 {
		return 0
	}
	// A root with 64 bits behind the point is a whole one of n with 64k more.
	var goal, root wide
	goal[k] = n
	at := topBit
next:
	tried := root
	tried[at/64] |= 1 << (at % 64)
	if atMost(power(tried, k), goal) {
		root = tried
	}
	if at > 0 {
		at--
		goto next
	}
	return root[0]
}

// power tells the k-th power of x, of a k of 1 or more.
func power(x wide, k int) wide {
	p := x
	for range k - 1 {
		p = product(p, x)
	}
	return p
}

// product tells x times y, of which nothing goes beyond 256 bits.
func product(x, y wide) wide {
	var p wide
	for i := range x {
		carry := uint64(0)
		for j := 0; i+j < len(p); j++ {
			// A product of two words leaves room for two words more, so that
			// nothing is carried out of high.
			high, low := bits.Mul64(x[i], y[j])
			low, one := bits.Add64(low, p[i+j], 0)
			low, other := bits.Add64(low, carry, 0)
			p[i+j], carry = low, high+one+other
		}
	}
	return p
}

// atMost tells whether x isn't greater than y.
func atMost(x, y wide) bool {
	for i := len(x) - 1; i >= 0; i-- {
		if x[i] != y[i] {
			return x[i] < y[i]
		}
	}
	return true
}
