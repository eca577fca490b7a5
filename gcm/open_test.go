package gcm_test

import (
	"bytes"
	"testing"

	"ratline/gcm"
)

// boxes are boxes of several lengths.
func boxes() []box {
	var l []box
	for i, n := range [][2]int{{0, 0}, {0, 1}, {1, 0}, {0, 16}, {16, 0}, {15, 17}, {17, 15}, {32, 32}, {50, 3}} {
		l = append(l, boxOf(10*i, n[0], n[1]))
	}
	return l
}

func TestP121FewerThanATag(t *testing.T) {
	for _, x := range boxes() {
		x.isntOpened(t, "nil", nil)
		sealed := x.theirs(t)
		for n := range tagSize {
			x.isntOpened(t, "fewer bytes than a tag", make([]byte, n))
			x.isntOpened(t, "fewer bytes than a tag", sealed[:n])
			x.isntOpened(t, "a part of the tag", sealed[len(sealed)-n:])
		}
	}
}

func TestP121EachBitTurned(t *testing.T) {
	for _, x := range boxes() {
		sealed := x.theirs(t)
		for bit := range 8 * len(sealed) {
			x.isntOpened(t, "bytes with a bit turned", turned(sealed, bit))
		}
		for bit := range 8 * keySize {
			box{key: turned(x.key, bit), nonce: x.nonce, more: x.more}.isntOpened(t, "a box by another key", sealed)
		}
		for bit := range 8 * nonceSize {
			box{key: x.key, nonce: turned(x.nonce, bit), more: x.more}.isntOpened(t, "a box by another nonce", sealed)
		}
		for bit := range 8 * len(x.more) {
			box{key: x.key, nonce: x.nonce, more: turned(x.more, bit)}.isntOpened(t, "a box with other bytes", sealed)
		}
	}
}

// Bits that are turned in two bytes of a tag don't outweigh each other.
func TestP121TwoBytesOfATag(t *testing.T) {
	x := boxOf(1, 20, 5)
	sealed := x.theirs(t)
	tag := len(sealed) - tagSize
	for i := range tagSize {
		for j := range i {
			b := bytes.Clone(sealed)
			b[tag+i] ^= 0x42
			b[tag+j] ^= 0x42
			x.isntOpened(t, "a tag with two bytes changed", b)
			b = bytes.Clone(sealed)
			b[tag+i]++
			b[tag+j]--
			x.isntOpened(t, "a tag with two bytes changed", b)
		}
	}
	for _, b := range [][]byte{make([]byte, tagSize), bytes.Repeat([]byte{0xff}, tagSize), boxOf(2, 0, 5).theirs(t)} {
		x.isntOpened(t, "another tag", append(bytes.Clone(sealed[:tag]), b...))
	}
}

func TestP121CutAndLengthened(t *testing.T) {
	for _, x := range boxes() {
		sealed := x.theirs(t)
		for n := range sealed {
			x.isntOpened(t, "bytes cut at their end", sealed[:n])
			x.isntOpened(t, "bytes cut at their beginning", sealed[n+1:])
		}
		for n := 1; n < 40; n++ {
			x.isntOpened(t, "bytes with 0 behind them", append(bytes.Clone(sealed), make([]byte, n)...))
			x.isntOpened(t, "bytes with 0 ahead of them", append(make([]byte, n), sealed...))
			tag := len(sealed) - tagSize
			b := append(bytes.Clone(sealed[:tag]), make([]byte, n)...)
			x.isntOpened(t, "bytes with 0 ahead of their tag", append(b, sealed[tag:]...))
		}
		for n := range x.more {
			box{key: x.key, nonce: x.nonce, more: x.more[:n]}.isntOpened(t, "a box with fewer further bytes", sealed)
		}
		for n := 1; n < 40; n++ {
			more := append(bytes.Clone(x.more), make([]byte, n)...)
			box{key: x.key, nonce: x.nonce, more: more}.isntOpened(t, "a box with 0 behind its further bytes", sealed)
		}
	}
}

// Where the further bytes end and the sealed ones begin plays its part.
func TestP121Parting(t *testing.T) {
	x := boxOf(3, 32, 32)
	sealed := x.theirs(t)
	body, tag := sealed[:32], sealed[32:]
	all := append(bytes.Clone(x.more), body...)
	for n := range len(all) + 1 {
		y := box{key: x.key, nonce: x.nonce, more: all[:n]}
		b := append(bytes.Clone(all[n:]), tag...)
		if n == len(x.more) {
			if text, ok := gcm.Open(y.key, y.nonce, b, y.more); !ok || !bytes.Equal(text, x.text) {
				t.Errorf("Open: %x, %v, not %x", text, ok, x.text)
			}
			continue
		}
		y.isntOpened(t, "bytes parted elsewhere", b)
	}
	box{key: x.key, nonce: x.nonce, more: body}.isntOpened(t, "bytes the other way round", append(bytes.Clone(x.more), tag...))
}

// A text that a tag was made of, and not the sealed one.
func TestP121TagOfTheSealedText(t *testing.T) {
	x := boxOf(4, 16, 0)
	sealed := x.theirs(t)
	y := x
	y.text = sealed[:16]
	again := y.theirs(t)
	x.isntOpened(t, "a text by the tag of what seals to it", append(bytes.Clone(x.text), sealed[16:]...))
	x.isntOpened(t, "a sealed text by another one's tag", append(bytes.Clone(sealed[:16]), again[16:]...))
}

func TestP123WhatIsSealedIsOpened(t *testing.T) {
	for i := range 600 {
		x := boxOf(i, i*7%331, i*11%97)
		sealed, ok := gcm.Seal(x.key, x.nonce, x.text, x.more)
		if !ok || len(sealed) != len(x.text)+tagSize {
			t.Fatalf("Seal of %d bytes: %x, %v", len(x.text), sealed, ok)
		}
		text, ok := gcm.Open(x.key, x.nonce, sealed, x.more)
		if !ok || !bytes.Equal(text, x.text) {
			t.Fatalf("Open of %d bytes, sealed: %x, %v, not %x", len(x.text), text, ok, x.text)
		}
	}
}

// What is sealed seven times is opened, box by box.
func TestP123BoxesInBoxes(t *testing.T) {
	text := []byte("innermost")
	b := text
	for i := range 7 {
		x := boxOf(i, 0, i)
		b, _ = gcm.Seal(x.key, x.nonce, b, x.more)
	}
	for i := 6; i >= 0; i-- {
		x := boxOf(i, 0, i)
		var ok bool
		if b, ok = gcm.Open(x.key, x.nonce, b, x.more); !ok {
			t.Fatalf("the box %d isn't opened", i)
		}
	}
	equal(t, "what was in all of them", b, text)
}

// The text's bytes are held against the same masks, whatever they are: where two
// texts are the same, so they are, sealed.
func TestP123SealedTwice(t *testing.T) {
	x, y := boxOf(5, 100, 9), boxOf(6, 60, 3)
	y.key, y.nonce = x.key, x.nonce
	a, _ := gcm.Seal(x.key, x.nonce, x.text, x.more)
	b, _ := gcm.Seal(y.key, y.nonce, y.text, y.more)
	for i := range y.text {
		if a[i]^b[i] != x.text[i]^y.text[i] {
			t.Fatalf("byte %d: %x and %x of %x and %x", i, a[i], b[i], x.text[i], y.text[i])
		}
	}
}
