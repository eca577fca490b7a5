package hpke_test

import (
	"bytes"
	"testing"

	"ratline/api"
	"ratline/hpke"
)

func TestP134WhatIsWrappedIsUnwrapped(t *testing.T) {
	for i := range 300 {
		private, public := hpke.Pair(random(i, i))
		secret, enc, e := hpke.Wrap(public, random(i+1, i%50))
		if e != api.OK || len(secret) != size || len(enc) != size {
			t.Fatalf("Wrap: %x, %x, %v", secret, enc, e)
		}
		b, e := hpke.Unwrap(private, enc)
		if e != api.OK || !bytes.Equal(b, secret) {
			t.Errorf("Unwrap of %x: %x, %v, not %x", enc, b, e, secret)
		}
	}
}

func TestP134WhatIsSealedIsOpened(t *testing.T) {
	for i := range 200 {
		private, public := hpke.Pair(random(i, i))
		x := box{private, public, random(i+1, i%40), random(i+2, i*7%120), random(i+3, i*11%150), random(i+4, i*5%90)}
		enc, sealed, e := hpke.Seal(x.public, x.seed, x.info, x.text, x.more)
		if e != api.OK || len(sealed) != len(x.text)+tagSize {
			t.Fatalf("Seal of %d bytes: %x, %v", len(x.text), sealed, e)
		}
		x.isOpened(t, enc, sealed)
		x.isntOpenedByAnother(t, enc, sealed)
	}
}

func TestP134WhatIsSealedWithALabelIsOpened(t *testing.T) {
	for i := range 100 {
		private, public := hpke.Pair(random(i, i))
		name, context, text := names[i%len(names)], random(i+2, i*7%120), random(i+3, i*11%150)
		enc, sealed, e := hpke.SealLabel(public, random(i+1, i%40), name, context, text)
		if e != api.OK || len(sealed) != len(text)+tagSize {
			t.Fatalf("SealLabel of %d bytes: %x, %v", len(text), sealed, e)
		}
		b, e := hpke.OpenLabel(private, enc, name, context, sealed)
		if e != api.OK || !bytes.Equal(b, text) {
			t.Errorf("OpenLabel of %x: %x, %v, not %x", sealed, b, e, text)
		}
		x := box{private: private}
		x.isntLabelled(t, "a box with another label", enc, names[(i+1)%len(names)], context, sealed, api.Seal)
	}
}

// The seed by which it is wrapped may be that of the pair itself.
func TestP134ToOneself(t *testing.T) {
	for i := range 30 {
		seed := random(i, size)
		private, public := hpke.Pair(seed)
		enc, sealed, e := hpke.Seal(public, seed, nil, seed, nil)
		if e != api.OK || !bytes.Equal(enc, public) {
			t.Errorf("Seal to oneself: %x, %v, not %x", enc, e, public)
		}
		box{private: private, text: seed}.isOpened(t, enc, sealed)
	}
}

// Boxes in boxes, each to another one.
func TestP134BoxesInBoxes(t *testing.T) {
	text := []byte("innermost")
	var encs [][]byte
	b := text
	for i := range 7 {
		_, public := hpke.Pair(random(i, size))
		enc, sealed, e := hpke.Seal(public, random(i+100, size), random(i, i), b, random(i, 2*i))
		if e != api.OK {
			t.Fatalf("Seal: %v", e)
		}
		encs, b = append(encs, enc), sealed
	}
	for i := 6; i >= 0; i-- {
		private, _ := hpke.Pair(random(i, size))
		var e api.Err
		if b, e = hpke.Open(private, encs[i], random(i, i), b, random(i, 2*i)); e != api.OK {
			t.Fatalf("the box %d: %v", i, e)
		}
	}
	equal(t, "what was in all of them", b, text)
}

// Another seed seals another way, to the same one.
func TestP134SeedsApart(t *testing.T) {
	private, public := hpke.Pair([]byte("one"))
	seen := map[string]bool{}
	for i := range 50 {
		enc, sealed, _ := hpke.Seal(public, random(i, i), nil, make([]byte, 20), nil)
		seen[string(enc)], seen[string(sealed)] = true, true
		box{private: private, text: make([]byte, 20)}.isOpened(t, enc, sealed)
	}
	if len(seen) != 100 {
		t.Errorf("%d encs and boxes, not 100", len(seen))
	}
}
