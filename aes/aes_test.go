package aes_test

import (
	"bytes"
	"encoding/hex"
	"math/rand"
	"testing"

	"ratline/aes"
)

const (
	size     = 16
	expanded = 176
)

// boxes tells what the box makes of each byte, as published.
func boxes(t *testing.T) []byte {
	t.Helper()
	return unhex(t, "637c777bf26b6fc53001672bfed7ab76ca82c97dfa5947f0add4a2af9ca472c0"+
		"b7fd9326363ff7cc34a5e5f171d8311504c723c31896059a071280e2eb27b275"+
		"09832c1a1b6e5aa0523bd6b329e32f8453d100ed20fcb15b6acbbe394a4c58cf"+
		"d0efaafb434d338545f9027f503c9fa851a3408f929d38f5bcb6da2110fff3d2"+
		"cd0c13ec5f974417c4a77e3d645d197360814fdc222a908846eeb814de5e0bdb"+
		"e0323a0a4906245cc2d3ac629195e479e7c8376d8dd54ea96c56f4ea657aae08"+
		"ba78252e1ca6b4c6e8dd741f4bbd8b8a703eb5664803f60e613557b986c11d9e"+
		"e1f8981169d98e949b1e87e9ce5528df8ca1890dbfe6426841992d0fb054bb16")
}

// product tells the product of two bytes, by what is left of the whole one.
func product(a, b byte) byte {
	p := 0
	for bit := range 8 {
		p ^= int(b>>bit&1) * (int(a) << bit)
	}
	for bit := 14; bit >= 8; bit-- {
		p ^= (p >> bit & 1) * (0x11b << (bit - 8))
	}
	return byte(p)
}

// random tells n bytes, the same ones for the same seed.
func random(seed, n int) []byte {
	b := make([]byte, n)
	rand.New(rand.NewSource(int64(seed))).Read(b)
	return b
}

func unhex(t *testing.T, text string) []byte {
	t.Helper()
	b, err := hex.DecodeString(text)
	if err != nil {
		t.Fatal(err)
	}
	return b
}

func equal(t *testing.T, what string, got, want []byte) {
	t.Helper()
	if !bytes.Equal(got, want) {
		t.Errorf("%s: %x, not %x", what, got, want)
	}
}

func TestP111TimesPublished(t *testing.T) {
	for _, x := range [][3]byte{
		{0x57, 0x83, 0xc1}, {0x57, 0x13, 0xfe}, {0x57, 0x01, 0x57}, {0x57, 0x02, 0xae}, {0x57, 0x04, 0x47},
		{0x57, 0x08, 0x8e}, {0x57, 0x10, 0x07}, {0x53, 0xca, 0x01}, {0xff, 0xff, 0x13}, {0x80, 0x02, 0x1b},
	} {
		if got := aes.Times(x[0], x[1]); got != x[2] {
			t.Errorf("Times of %x and %x: %x, not %x", x[0], x[1], got, x[2])
		}
	}
}

func TestP111TimesOfAll(t *testing.T) {
	for a := range 256 {
		for b := range 256 {
			if got, want := aes.Times(byte(a), byte(b)), product(byte(a), byte(b)); got != want {
				t.Fatalf("Times of %x and %x: %x, not %x", a, b, got, want)
			}
		}
	}
}

func TestP111BoxPublished(t *testing.T) {
	for b, want := range boxes(t) {
		if got := aes.Box(byte(b)); got != want {
			t.Errorf("Box of %x: %x, not %x", b, got, want)
		}
	}
}

// The box is made of the inverse, bit by bit.
func TestP111BoxOfTheInverse(t *testing.T) {
	for b := range 256 {
		inverse := byte(0)
		for x := range 256 {
			if product(byte(b), byte(x)) == 1 {
				inverse = byte(x)
			}
		}
		bit := func(i int) byte { return inverse >> (i % 8) & 1 }
		want := byte(0)
		for i := range 8 {
			want |= (bit(i) ^ bit(i+4) ^ bit(i+5) ^ bit(i+6) ^ bit(i+7) ^ 0x63>>i&1) << i
		}
		if got := aes.Box(byte(b)); got != want {
			t.Errorf("Box of %x: %x, not %x", b, got, want)
		}
	}
}
