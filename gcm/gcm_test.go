package gcm_test

import (
	"bytes"
	stdaes "crypto/aes"
	"crypto/cipher"
	"encoding/hex"
	"math/rand"
	"testing"

	"ratline/gcm"
)

const (
	keySize   = 16
	nonceSize = 12
	tagSize   = 16
)

// random tells n bytes, the same ones for the same seed.
func random(seed, n int) []byte {
	b := make([]byte, n)
	rand.New(rand.NewSource(int64(seed))).Read(b)
	return b
}

func unhex(t *testing.T, text string) []byte {
	t.Helper()
	b, err := hex.DecodeString(text)
	if err != nil {
		t.Fatal(err)
	}
	return b
}

func equal(t *testing.T, what string, got, want []byte) {
	t.Helper()
	if !bytes.Equal(got, want) {
		t.Errorf("%s: %x, not %x", what, got, want)
	}
}

// turned tells b with one bit turned.
func turned(b []byte, bit int) []byte {
	b = bytes.Clone(b)
	b[bit/8] ^= 1 << (bit % 8)
	return b
}

// box is what Seal is handed.
type box struct {
	key, nonce, text, more []byte
}

// boxOf tells a box, the same one for the same seed.
func boxOf(seed, text, more int) box {
	return box{random(seed, keySize), random(seed+1, nonceSize), random(seed+2, text), random(seed+3, more)}
}

// clone tells a box in a memory of its own.
func (x box) clone() box {
	return box{bytes.Clone(x.key), bytes.Clone(x.nonce), bytes.Clone(x.text), bytes.Clone(x.more)}
}

// theirs tells what another program seals.
func (x box) theirs(t *testing.T) []byte {
	t.Helper()
	c, err := stdaes.NewCipher(x.key)
	if err != nil {
		t.Fatal(err)
	}
	g, err := cipher.NewGCM(c)
	if err != nil {
		t.Fatal(err)
	}
	return g.Seal(nil, x.nonce, x.text, x.more)
}

// is asks that a box is sealed as just this, and that this is opened.
func (x box) is(t *testing.T, want []byte) {
	t.Helper()
	got, ok := gcm.Seal(x.key, x.nonce, x.text, x.more)
	if !ok || !bytes.Equal(got, want) {
		t.Fatalf("Seal of %d bytes with %d: %x, %v, not %x", len(x.text), len(x.more), got, ok, want)
	}
	got, ok = gcm.Open(x.key, x.nonce, want, x.more)
	if !ok || !bytes.Equal(got, x.text) {
		t.Fatalf("Open of %d bytes with %d: %x, %v, not %x", len(want), len(x.more), got, ok, x.text)
	}
}

// agrees asks that a box is sealed and opened as another program does.
func (x box) agrees(t *testing.T) {
	t.Helper()
	x.is(t, x.theirs(t))
}

// isntSealed asks that a box isn't sealed.
func (x box) isntSealed(t *testing.T) {
	t.Helper()
	if b, ok := gcm.Seal(x.key, x.nonce, x.text, x.more); ok || len(b) != 0 {
		t.Errorf("Seal by %d bytes and %d: %x, %v", len(x.key), len(x.nonce), b, ok)
	}
}

// isntOpened asks that sealed bytes aren't opened.
func (x box) isntOpened(t *testing.T, what string, sealed []byte) {
	t.Helper()
	if b, ok := gcm.Open(x.key, x.nonce, sealed, x.more); ok || len(b) != 0 {
		t.Errorf("Open of %s: %x, %v", what, b, ok)
	}
}
