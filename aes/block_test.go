package aes_test

import (
	"bytes"
	stdaes "crypto/aes"
	"testing"

	"ratline/aes"
)

// published are keys, blocks and what these are, sealed.
var published = [][3]string{
	{"000102030405060708090a0b0c0d0e0f", "00112233445566778899aabbccddeeff", "69c4e0d86a7b0430d8cdb78070b4c55a"},
	{"2b7e151628aed2a6abf7158809cf4f3c", "3243f6a8885a308d313198a2e0370734", "3925841d02dc09fbdc118597196a0b32"},
	{"2b7e151628aed2a6abf7158809cf4f3c", "6bc1bee22e409f96e93d7e117393172a", "3ad77bb40d7a3660a89ecaf32466ef97"},
	{"2b7e151628aed2a6abf7158809cf4f3c", "ae2d8a571e03ac9c9eb76fac45af8e51", "f5d3d58503b9699de785895a96fdbaaf"},
	{"2b7e151628aed2a6abf7158809cf4f3c", "30c81c46a35ce411e5fbc1191a0a52ef", "43b1cd7f598ece23881b00e3ed030688"},
	{"2b7e151628aed2a6abf7158809cf4f3c", "f69f2445df4f9b17ad2b417be66c3710", "7b0c785e27e8ad3f8223207104725dd4"},
	{"00000000000000000000000000000000", "00000000000000000000000000000000", "66e94bd4ef8a2c3b884cfa59ca342b2e"},
}

// theirs tells a block, sealed by another program.
func theirs(t *testing.T, key, block []byte) []byte {
	t.Helper()
	c, err := stdaes.NewCipher(key)
	if err != nil {
		t.Fatal(err)
	}
	b := make([]byte, size)
	c.Encrypt(b, block)
	return b
}

// seals asks that Block tells just this.
func seals(t *testing.T, key, block, want []byte) {
	t.Helper()
	got, ok := aes.Block(key, block)
	if !ok || len(got) != size || !bytes.Equal(got, want) {
		t.Errorf("Block of %x by %x: %x, %v, not %x", block, key, got, ok, want)
	}
}

// agrees asks that Block tells what another program does.
func agrees(t *testing.T, key, block []byte) {
	t.Helper()
	seals(t, key, block, theirs(t, key, block))
}

func TestP112Published(t *testing.T) {
	for _, x := range published {
		seals(t, unhex(t, x[0]), unhex(t, x[1]), unhex(t, x[2]))
	}
}

func TestP112EachByte(t *testing.T) {
	for at := range size {
		for b := range 256 {
			one, other := make([]byte, size), random(at, size)
			one[at], other[at] = byte(b), byte(b)
			agrees(t, one, make([]byte, size))
			agrees(t, make([]byte, size), one)
			agrees(t, other, random(b, size))
			agrees(t, random(b, size), other)
		}
	}
}

func TestP112EqualBytes(t *testing.T) {
	for a := range 256 {
		for _, b := range []int{0, 1, 0x63, 0x80, 0xff, a, a ^ 0xff} {
			agrees(t, bytes.Repeat([]byte{byte(a)}, size), bytes.Repeat([]byte{byte(b)}, size))
		}
	}
}

func TestP112Any(t *testing.T) {
	for i := range 1000 {
		agrees(t, random(i, size), random(i+1000, size))
	}
}

// What is sealed is sealed again, and is the next key, now and then.
func TestP112OverAndOver(t *testing.T) {
	key, block := random(1, size), random(2, size)
	for i := range 5000 {
		agrees(t, key, block)
		sealed, _ := aes.Block(key, block)
		if i%7 == 0 {
			key, block = sealed, key
			continue
		}
		block = sealed
	}
}

func TestP112OtherLengths(t *testing.T) {
	right := random(3, size)
	refused := func(key, block []byte) {
		t.Helper()
		if b, ok := aes.Block(key, block); ok || len(b) != 0 {
			t.Errorf("Block of %d bytes by %d: %x, %v", len(block), len(key), b, ok)
		}
	}
	for _, b := range wrong() {
		refused(b, right)
		refused(right, b)
		refused(b, b)
	}
	for n := range 2*size + 1 {
		if n != size {
			b := random(n, 2*size)
			refused(b[:n], b[n:])
		}
	}
	refused(nil, nil)
}

// What is handed in stays as it is, and isn't kept; what is told is the caller's.
func TestP112NothingShared(t *testing.T) {
	for i := range 20 {
		key, block := random(i, 100)[:size], random(i+100, 100)[:size]
		want := theirs(t, key, block)
		first, _ := aes.Block(key, block)
		second, _ := aes.Block(key, block)
		clear(first[:cap(first)])
		equal(t, "told second", second, want)
		equal(t, "the key, and what is behind it", key[:100], random(i, 100))
		equal(t, "the block, and what is behind it", block[:100], random(i+100, 100))
		clear(key)
		clear(block)
		equal(t, "behind a change of what was handed in", second, want)
		seals(t, random(i, size), random(i+100, size), want)
	}
}

// The key and the block may lie in the same memory.
func TestP112OneMemory(t *testing.T) {
	for by := range size + 1 {
		b, kept := random(by, 3*size), random(by, 3*size)
		key, block := b[:size], b[by:by+size]
		want := theirs(t, bytes.Clone(key), bytes.Clone(block))
		seals(t, key, block, want)
		seals(t, block, key, theirs(t, bytes.Clone(block), bytes.Clone(key)))
		equal(t, "what was handed in", b, kept)
	}
}

func BenchmarkBlock(b *testing.B) {
	key, block := random(1, size), random(2, size)
	for b.Loop() {
		aes.Block(key, block)
	}
}
