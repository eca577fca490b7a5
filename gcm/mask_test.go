package gcm

import (
	"bytes"
	"testing"

	"ratline/aes"
)

// No text in a test has as many blocks as it takes for all bytes of a mask's number.
func TestP121MasksAreNumbered(t *testing.T) {
	key, nonce := []byte("a key of a group"), []byte("nonce of it.")
	for n, number := range map[uint32][]byte{
		0: {0, 0, 0, 0}, 1: {0, 0, 0, 1}, 0xff: {0, 0, 0, 0xff}, 0x100: {0, 0, 1, 0},
		0x10203: {0, 1, 2, 3}, 0x1020304: {1, 2, 3, 4}, 1 << 24: {1, 0, 0, 0}, 1 << 31: {0x80, 0, 0, 0},
		0xfffefdfc: {0xff, 0xfe, 0xfd, 0xfc}, 1<<32 - 1: {0xff, 0xff, 0xff, 0xff},
	} {
		want, ok := aes.Block(key, append(bytes.Clone(nonce), number...))
		if got := mask(key, nonce, n); !ok || !bytes.Equal(got, want) {
			t.Errorf("the mask %d: %x, not %x", n, got, want)
		}
	}
}

// No text in a test has as many bits as it takes for more than 4 bytes.
func TestP121BitsOfMany(t *testing.T) {
	b := make([]byte, 1<<29+1)
	for _, n := range []int{0, 1, 2, 31, 32, 1 << 20, 1<<29 - 1, 1 << 29, 1<<29 + 1} {
		if got, want := bitsOf(b[:n]), uint64(n)<<3; got != want {
			t.Errorf("bits of %d bytes: %d, not %d", n, got, want)
		}
	}
}
