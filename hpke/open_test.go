package hpke_test

import (
	"bytes"
	"testing"

	"ratline/api"
)

// someBoxes are boxes of several lengths.
func someBoxes(t *testing.T) []box {
	t.Helper()
	var l []box
	for i, n := range [][3]int{{0, 0, 0}, {9, 0, 3}, {0, 5, 0}, {40, 17, 20}} {
		l = append(l, boxOf(t, 10*i, n[0], n[1], n[2]))
	}
	return l
}

func TestP132FewerThanATag(t *testing.T) {
	for _, x := range someBoxes(t) {
		enc, sealed := x.theirs(t)
		x.isntOpened(t, "nil", enc, nil, api.Seal)
		for n := range tagSize {
			x.isntOpened(t, "fewer bytes than a tag", enc, sealed[:n], api.Seal)
			x.isntOpened(t, "fewer bytes than a tag", enc, make([]byte, n), api.Seal)
			x.isntOpened(t, "a part of the tag", enc, sealed[len(sealed)-n:], api.Seal)
		}
	}
}

func TestP132EachBitTurned(t *testing.T) {
	for _, x := range someBoxes(t) {
		enc, sealed := x.theirs(t)
		for bit := range 8 * len(sealed) {
			x.isntOpened(t, "bytes with a bit turned", enc, turned(sealed, bit), api.Seal)
		}
		for bit := range 8 * size {
			x.isntOpened(t, "a box with another enc", turned(enc, bit), sealed, api.Seal)
		}
		for bit := range 8 * len(x.info) {
			y := x
			y.info = turned(x.info, bit)
			y.isntOpened(t, "a box with another info", enc, sealed, api.Seal)
		}
		for bit := range 8 * len(x.more) {
			y := x
			y.more = turned(x.more, bit)
			y.isntOpened(t, "a box with other further bytes", enc, sealed, api.Seal)
		}
		x.isntOpenedByAnother(t, enc, sealed)
		x.isOpened(t, enc, sealed)
	}
}

// A private key opens with those bits turned that are clamped, and with no others.
func TestP132EachBitOfAKey(t *testing.T) {
	x := boxOf(t, 1, 5, 20, 5)
	enc, sealed := x.theirs(t)
	for bit := range 8 * size {
		y := x
		y.private = turned(x.private, bit)
		if bit < 3 || bit >= 8*size-2 {
			y.isOpened(t, enc, sealed)
			continue
		}
		y.isntOpened(t, "a box by another key", enc, sealed, api.Seal)
	}
}

func TestP132CutAndLengthened(t *testing.T) {
	for _, x := range someBoxes(t) {
		enc, sealed := x.theirs(t)
		for n := range sealed {
			x.isntOpened(t, "bytes cut at their end", enc, sealed[:n], api.Seal)
			x.isntOpened(t, "bytes cut at their beginning", enc, sealed[n+1:], api.Seal)
		}
		for n := 1; n < 20; n++ {
			x.isntOpened(t, "bytes with 0 behind them", enc, append(bytes.Clone(sealed), make([]byte, n)...), api.Seal)
			x.isntOpened(t, "bytes with 0 ahead of them", enc, append(make([]byte, n), sealed...), api.Seal)
			y := x
			y.info = append(bytes.Clone(x.info), make([]byte, n)...)
			y.isntOpened(t, "a box with 0 behind its info", enc, sealed, api.Seal)
			y = x
			y.more = append(bytes.Clone(x.more), make([]byte, n)...)
			y.isntOpened(t, "a box with 0 behind its further bytes", enc, sealed, api.Seal)
		}
	}
}

// Where the info ends and the further bytes begin plays its part.
func TestP132Parting(t *testing.T) {
	x := boxOf(t, 2, 10, 20, 10)
	enc, sealed := x.theirs(t)
	all := append(bytes.Clone(x.info), x.more...)
	for n := range len(all) + 1 {
		y := x
		y.info, y.more = all[:n], all[n:]
		if n == len(x.info) {
			y.isOpened(t, enc, sealed)
			continue
		}
		y.isntOpened(t, "a box parted elsewhere", enc, sealed, api.Seal)
	}
	x.info, x.more = x.more, x.info
	x.isntOpened(t, "a box with info and further bytes changed round", enc, sealed, api.Seal)
}

func TestP132OpenErrors(t *testing.T) {
	x := boxOf(t, 3, 10, 10, 10)
	enc, sealed := x.theirs(t)
	for _, b := range wrong() {
		y := x
		y.private = b
		x.isntOpened(t, "a box with an enc that can't be", b, sealed, api.Form)
		x.isntOpened(t, "no box, with an enc that can't be", b, nil, api.Form)
		y.isntOpened(t, "a box by a key that can't be", enc, sealed, api.Arg)
		y.isntOpened(t, "a box by a key that can't be, with an enc that can't be", b, sealed, api.Arg)
		y.isntOpened(t, "no box by a key that can't be", enc, nil, api.Arg)
		y.isntOpened(t, "a box by a key that can't be, with a lost enc", make([]byte, size), sealed, api.Arg)
	}
	for _, b := range lost(t) {
		x.isntOpened(t, "a box with a lost enc", b, sealed, api.Point)
		x.isntOpened(t, "no box, with a lost enc", b, nil, api.Point)
	}
	x.isOpened(t, enc, sealed)
}

// The public key plays its part as whoever opens it has it, not as whoever sealed it
// had it.
func TestP132PublicKeyInAnotherForm(t *testing.T) {
	x := boxOf(t, 4, 10, 10, 10)
	x.public = turned(x.public, 8*size-1)
	enc, sealed := x.theirs(t)
	x.isSealed(t, enc, sealed)
	x.isntOpened(t, "a box to a public key with the highest bit set", enc, sealed, api.Seal)
}
