package gcm_test

import (
	"bytes"
	"math/big"
	"testing"

	"ratline/gcm"
)

const blockSize = 16

// numberOf tells a block as a number whose bit i is the factor of x^i.
func numberOf(b []byte) *big.Int {
	n := new(big.Int)
	for i := range 8 * blockSize {
		n.SetBit(n, i, uint(b[i/8]>>(7-i%8)&1))
	}
	return n
}

// product tells the product of two blocks, by what is left of the whole one.
func product(a, b []byte) []byte {
	p, m, n := new(big.Int), numberOf(a), numberOf(b)
	for i := range 8 * blockSize {
		if m.Bit(i) == 1 {
			p.Xor(p, new(big.Int).Lsh(n, uint(i)))
		}
	}
	modulus := big.NewInt(0x87)
	modulus.SetBit(modulus, 128, 1)
	for i := 254; i >= 128; i-- {
		if p.Bit(i) == 1 {
			p.Xor(p, new(big.Int).Lsh(modulus, uint(i-128)))
		}
	}
	block := make([]byte, blockSize)
	for i := range 8 * blockSize {
		block[i/8] |= byte(p.Bit(i)) << (7 - i%8)
	}
	return block
}

// power tells the block of x^i, i from 0 to 127.
func power(i int) []byte {
	return turned(make([]byte, blockSize), i/8*8+7-i%8)
}

// times tells a product that must be.
func times(t *testing.T, a, b []byte) []byte {
	t.Helper()
	p, ok := gcm.Times(a, b)
	if !ok || len(p) != blockSize {
		t.Fatalf("Times of %x and %x: %x, %v", a, b, p, ok)
	}
	return p
}

// sum tells the sum of two blocks.
func sum(a, b []byte) []byte {
	c := bytes.Clone(a)
	for i := range c {
		c[i] ^= b[i]
	}
	return c
}

func TestP122Published(t *testing.T) {
	for _, x := range [][3]string{
		{"0388dace60b6a392f328c2b971b2fe78", "66e94bd4ef8a2c3b884cfa59ca342b2e", "5e2ec746917062882c85b0685353deb7"},
		{"5e2ec746917062882c85b0685353de37", "66e94bd4ef8a2c3b884cfa59ca342b2e", "f38cbb1ad69223dcc3457ae5b6b0f885"},
		{"00000000000000000000000000000001", "40000000000000000000000000000000", "e1000000000000000000000000000000"},
		{"80000000000000000000000000000000", "66e94bd4ef8a2c3b884cfa59ca342b2e", "66e94bd4ef8a2c3b884cfa59ca342b2e"},
	} {
		equal(t, "Times of "+x[0]+" and "+x[1], times(t, unhex(t, x[0]), unhex(t, x[1])), unhex(t, x[2]))
	}
}

func TestP122EachTwoPowers(t *testing.T) {
	for i := range 128 {
		for j := range 128 {
			equal(t, "the product of two powers", times(t, power(i), power(j)), product(power(i), power(j)))
		}
	}
}

// blocks are blocks about the ends of what there is, and any.
func blocks() [][]byte {
	ones := bytes.Repeat([]byte{0xff}, blockSize)
	l := [][]byte{make([]byte, blockSize), ones}
	for _, i := range []int{0, 1, 7, 8, 62, 63, 64, 65, 120, 121, 126, 127} {
		l = append(l, power(i), sum(ones, power(i)))
	}
	for _, b := range []byte{1, 0x0f, 0x55, 0x80, 0xaa, 0xe1, 0xf0} {
		l = append(l, bytes.Repeat([]byte{b}, blockSize))
	}
	half := append(make([]byte, blockSize/2), ones[:blockSize/2]...)
	l = append(l, half, sum(ones, half))
	for i := range 20 {
		l = append(l, random(i, blockSize))
	}
	return l
}

func TestP122Times(t *testing.T) {
	for _, a := range blocks() {
		for _, b := range blocks() {
			equal(t, "a product", times(t, a, b), product(a, b))
		}
	}
	for i := range 300 {
		a, b := random(i, blockSize), random(i+300, blockSize)
		equal(t, "a product", times(t, a, b), product(a, b))
	}
}

func TestP122OtherLengths(t *testing.T) {
	right := random(1, blockSize)
	refused := func(a, b []byte) {
		t.Helper()
		if p, ok := gcm.Times(a, b); ok || len(p) != 0 {
			t.Errorf("Times of %d bytes and %d: %x, %v", len(a), len(b), p, ok)
		}
	}
	for _, b := range wrong(blockSize) {
		refused(b, right)
		refused(right, b)
		refused(b, b)
	}
	for n := range 2*blockSize + 1 {
		if n != blockSize {
			b := random(n, 2*blockSize)
			refused(b[:n], b[n:])
		}
	}
	refused(nil, nil)
}

// What is handed in stays as it is, and isn't kept; what is told is the caller's.
func TestP122NothingShared(t *testing.T) {
	for i := range 20 {
		b, kept := random(i, 60), random(i, 60)
		x, y := b[:blockSize], b[i:i+blockSize]
		want := product(x, y)
		first, second := times(t, x, y), times(t, x, y)
		clear(first[:cap(first)])
		equal(t, "told second", second, want)
		equal(t, "what was handed in, and what is behind it", b, kept)
		clear(b)
		equal(t, "behind a change of what was handed in", second, want)
	}
}

func TestP122OfOneAndNothing(t *testing.T) {
	for _, a := range blocks() {
		equal(t, "a block times 1", times(t, a, power(0)), a)
		equal(t, "1 times a block", times(t, power(0), a), a)
		equal(t, "a block times 0", times(t, a, make([]byte, blockSize)), make([]byte, blockSize))
	}
}

func TestP122OfThree(t *testing.T) {
	l := blocks()
	for i := range 4000 {
		a, b, c := l[i%len(l)], l[i*7/3%len(l)], l[i/len(l)%len(l)]
		ab := times(t, a, b)
		equal(t, "the other way round", times(t, b, a), ab)
		equal(t, "a product times a block", times(t, ab, c), times(t, a, times(t, b, c)))
		equal(t, "a block times a sum", times(t, a, sum(b, c)), sum(ab, times(t, a, c)))
	}
}

// A block's power 2^128 - 2 is its inverse, and 2^128 the block itself.
func TestP122Inverses(t *testing.T) {
	for _, a := range blocks() {
		if bytes.Equal(a, make([]byte, blockSize)) {
			continue
		}
		inverse, square := power(0), a
		for range 127 {
			square = times(t, square, square)
			inverse = times(t, inverse, square)
		}
		equal(t, "a block times its inverse", times(t, a, inverse), power(0))
		equal(t, "a block, squared 128 times", times(t, square, square), a)
	}
}
