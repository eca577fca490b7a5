package aes

// Eight bytes are reckoned with at once, side by side in one number. Keys and
// blocks are secrets: nothing is asked of a byte, and nothing is looked up at its
// place, so that how long it takes doesn't tell it.
const (
	// ones has the lowest bit of each byte, highs the highest one.
	ones  = 0x0101010101010101
	highs = 0x80 * ones

	byteBits = 8

	// left is what is left of x^8.
	left = 0x1b

	// added is what the box adds in the end.
	added = 0x63
)

// doubled tells x times each byte.
func doubled(a uint64) uint64 {
	over := a >> (byteBits - 1) & ones
	return (a&^highs)<<1 ^ over*left
}

// times tells each byte of a times the one of b.
func times(a, b uint64) uint64 {
	var product uint64
	for range byteBits {
		product ^= a & ((b & ones) * 0xff)
		a, b = doubled(a), b>>1
	}
	return product
}

// inverse tells the inverse of each byte.
func inverse(b uint64) uint64 {
	// The power 255 of a byte is 1, but of 0 it is 0: the inverse is the power 254,
	// and so the product of the powers 2, 4, 8 and on to 128.
	product := uint64(ones)
	for range byteBits - 1 {
		b = times(b, b)
		product = times(product, b)
	}
	return product
}

// lowered tells each byte with its bits turned by n places (from 1 to 7) to the
// lowest one.
func lowered(b uint64, n int) uint64 {
	low := uint64(ones) * (0xff >> n)
	return b>>n&low | b<<(byteBits-n)&^low
}

// boxed tells what the box makes of each byte.
func boxed(b uint64) uint64 {
	b = inverse(b)
	return b ^ lowered(b, 4) ^ lowered(b, 5) ^ lowered(b, 6) ^ lowered(b, 7) ^ added*ones
}
