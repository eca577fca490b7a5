package sha

import (
	"bytes"
	"math/big"
	"testing"
)

// isRoot tells whether word is the first 32 bits behind the point of p's root of
// the degree.
func isRoot(word uint32, p, degree int64) bool {
	scale := new(big.Int).Lsh(big.NewInt(p), uint(32*degree))
	whole := int64(1)
	for power(whole+1, degree) <= p {
		whole++
	}
	low := big.NewInt(whole<<32 | int64(word))
	high := new(big.Int).Add(low, big.NewInt(1))
	exponent := big.NewInt(degree)
	return low.Exp(low, exponent, nil).Cmp(scale) <= 0 && high.Exp(high, exponent, nil).Cmp(scale) > 0
}

func power(x, n int64) int64 {
	if n == 0 {
		return 1
	}
	return x * power(x, n-1)
}

func firstPrimes(n int) []int64 {
	var l []int64
	for p := int64(2); len(l) < n; p++ {
		if big.NewInt(p).ProbablyPrime(0) {
			l = append(l, p)
		}
	}
	return l
}

func TestP21Tables(t *testing.T) {
	for i, p := range firstPrimes(len(constants)) {
		if !isRoot(constants[i], p, 3) {
			t.Errorf("constant %d isn't of the cube root of %d", i, p)
		}
		if i < len(beginnings) && !isRoot(beginnings[i], p, 2) {
			t.Errorf("beginning %d isn't of the square root of %d", i, p)
		}
	}
}

// How many bits there are is asked by the last block alone, so that half a
// gigabyte needn't be gone through for a number of more than 4 bytes.
func TestP21ManyBits(t *testing.T) {
	for _, x := range []struct {
		length int
		count  []byte
	}{
		{0, []byte{0, 0, 0, 0, 0, 0, 0, 0}},
		{32, []byte{0, 0, 0, 0, 0, 0, 1, 0}},
		{1 << 29, []byte{0, 0, 0, 1, 0, 0, 0, 0}},
		{1<<31 - 1, []byte{0, 0, 0, 3, 0xFF, 0xFF, 0xFF, 0xF8}},
	} {
		block := append(bytes.Repeat([]byte{0}, 56), x.count...)
		block[0] = 128
		want := spread(mixed(beginnings, block))
		if got := closed(beginnings, nil, x.length); got != want {
			t.Errorf("%d bytes: %x, not %x", x.length, got, want)
		}
	}
}

// What was gone through isn't held any longer.
func TestP22NothingLeft(t *testing.T) {
	h := New()
	h.Write(bytes.Repeat([]byte{7}, 40))
	h.Write(bytes.Repeat([]byte{7}, 25))
	if h.rest != [blockSize]byte{7} {
		t.Errorf("behind 65 bytes: % x", h.rest)
	}
	h.Write(bytes.Repeat([]byte{7}, 63))
	if h.rest != [blockSize]byte{} {
		t.Errorf("behind 128 bytes: % x", h.rest)
	}
}

func BenchmarkSum(b *testing.B) {
	text := make([]byte, 1<<16)
	b.SetBytes(int64(len(text)))
	for b.Loop() {
		Sum(text)
	}
}
