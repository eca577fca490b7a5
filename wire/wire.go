// Package wire is layer 1: numbers and vectors as bytes.
package wire

// Lengths below these stand in one, two and four bytes.
const (
	inOne  = 1 << 6
	inTwo  = 1 << 14
	inFour = 1 << 30
)

// LenSize tells in how many bytes a length is put, 0 if it can't be.
func LenSize(n int) int {
	switch {
	case n < 0 || n >= inFour:
		return 0
	case n < inOne:
		return 1
	case n < inTwo:
		return 2
	}
	return 4
}

// PutNum tells b, and n's lowest size bytes behind it, or nothing behind it,
// if no number has this size.
func PutNum(b []byte, size int, n uint64) []byte {
	if !isNumSize(size) {
		return clone(b)
	}
	return appendNum(roomy(b, size), size, n)
}

// PutLen tells b, and the length n behind it, or nothing behind it, if n is
// no length.
func PutLen(b []byte, n int) []byte {
	size := LenSize(n)
	if size == 0 {
		return clone(b)
	}
	return appendLen(roomy(b, size), n)
}

// PutVec tells b, and the vector of v behind it, or nothing behind it, if v
// is too long.
func PutVec(b, v []byte) []byte {
	size := LenSize(len(v))
	if size == 0 {
		return clone(b)
	}
	return appendVec(roomy(b, size+len(v)), v)
}

// PutList tells b, and the vector of all vectors of l behind it, or nothing
// behind it, if they are too long.
func PutList(b []byte, l [][]byte) []byte {
	n, ok := listLen(l)
	if !ok {
		return clone(b)
	}
	out := appendLen(roomy(b, LenSize(n)+n), n)
	for _, v := range l {
		out = appendVec(out, v)
	}
	return out
}

func isNumSize(size int) bool {
	return size == 1 || size == 2 || size == 4 || size == 8
}

// roomy copies b, since to append to b itself could write behind its end
// where somebody else's bytes are.
func roomy(b []byte, more int) []byte {
	return append(make([]byte, 0, len(b)+more), b...)
}

// listLen tells how many bytes the vectors of l have, and whether these are a
// length. It stops ahead of a sum that would be too great to be reckoned.
func listLen(l [][]byte) (int, bool) {
	n := 0
	for _, v := range l {
		size := LenSize(len(v))
		if size == 0 || len(v) >= inFour-size-n {
			return 0, false
		}
		n += size + len(v)
	}
	return n, true
}

func appendNum(b []byte, size int, n uint64) []byte {
	for i := size - 1; i >= 0; i-- {
		b = append(b, byte(n>>(8*i)))
	}
	return b
}

func appendLen(b []byte, n int) []byte {
	size := LenSize(n)
	// Half of 1, 2 and 4 is just the mark 0, 1 and 2 of the highest two bits.
	mark := uint64(size / 2)
	return appendNum(b, size, mark<<(8*size-2)|uint64(n))
}

func appendVec(b, v []byte) []byte {
	return append(appendLen(b, len(v)), v...)
}
