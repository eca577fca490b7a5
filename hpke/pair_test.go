package hpke_test

import (
	"bytes"
	"crypto/ecdh"
	other "crypto/hpke"
	"testing"

	"ratline/hpke"
)

// hasPair asks that a seed has just this pair.
func hasPair(t *testing.T, seed, private, public []byte) {
	t.Helper()
	a, b := hpke.Pair(seed)
	if !bytes.Equal(a, private) || !bytes.Equal(b, public) {
		t.Errorf("Pair of %x: %x, %x, not %x, %x", seed, a, b, private, public)
	}
}

func TestP131PairPublished(t *testing.T) {
	for _, x := range published {
		hasPair(t, unhex(t, x.seed), unhex(t, x.private), unhex(t, x.public))
		private, public := pairOf(t, unhex(t, x.seed))
		equal(t, "another program's private key", private, unhex(t, x.private))
		equal(t, "another program's public key", public, unhex(t, x.public))
	}
}

func TestP131PairEachLength(t *testing.T) {
	for n := range 300 {
		private, public := pairOf(t, random(n, n))
		hasPair(t, random(n, n), private, public)
	}
	for _, n := range []int{1 << 14, 1 << 16, 1<<20 - 1, 1 << 20, 1<<20 + 1} {
		private, public := pairOf(t, random(n, n))
		hasPair(t, random(n, n), private, public)
	}
	private, public := pairOf(t, nil)
	hasPair(t, nil, private, public)
	hasPair(t, []byte{}, private, public)
}

func TestP131PairEachBit(t *testing.T) {
	seen := map[string]bool{}
	for bit := range 8 * size {
		seed := turned(random(1, size), bit)
		private, public := pairOf(t, seed)
		hasPair(t, seed, private, public)
		seen[string(private)], seen[string(public)] = true, true
	}
	if len(seen) != 2*8*size {
		t.Errorf("%d keys, not %d", len(seen), 2*8*size)
	}
}

// A seed with 0 behind it, or ahead of it, is another one.
func TestP131PairsApart(t *testing.T) {
	seen := map[string]bool{}
	for n := range 100 {
		_, public := hpke.Pair(make([]byte, n))
		seen[string(public)] = true
	}
	if len(seen) != 100 {
		t.Errorf("%d public keys, not 100", len(seen))
	}
}

func TestP131PairOfAnotherProgram(t *testing.T) {
	for n := range 100 {
		k, err := other.DHKEM(ecdh.X25519()).DeriveKeyPair(random(n, n))
		if err != nil {
			t.Fatal(err)
		}
		_, public := hpke.Pair(random(n, n))
		equal(t, "the public key", public, k.PublicKey().Bytes())
	}
}

func TestP131PairNothingShared(t *testing.T) {
	room := random(2, 100)
	private, public := hpke.Pair(room[:size])
	wantPrivate, wantPublic := pairOf(t, room[:size])
	first, second := hpke.Pair(room[:size])
	clear(first[:cap(first)])
	clear(second[:cap(second)])
	equal(t, "the private key", private, wantPrivate)
	equal(t, "the public key", public, wantPublic)
	equal(t, "the seed, and what is behind it", room, random(2, 100))
	clear(private[:cap(private)])
	equal(t, "the public key, behind a change of the private one", public, wantPublic)
	clear(room)
	equal(t, "the public key, behind a change of the seed", public, wantPublic)
}

func BenchmarkPair(b *testing.B) {
	seed := random(3, size)
	for b.Loop() {
		hpke.Pair(seed)
	}
}
