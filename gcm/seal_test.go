package gcm_test

import (
	"bytes"
	"fmt"
	"testing"

	"ratline/gcm"
)

// published are keys, nonces, texts, further bytes, and what these are, sealed.
var published = [][5]string{
	{"00000000000000000000000000000000", "000000000000000000000000", "", "", "58e2fccefa7e3061367f1d57a4e7455a"},
	{"00000000000000000000000000000000", "000000000000000000000000", "00000000000000000000000000000000", "",
		"0388dace60b6a392f328c2b971b2fe78ab6e47d42cec13bdf53a67b21257bddf"},
	{"feffe9928665731c6d6a8f9467308308", "cafebabefacedbaddecaf888",
		"d9313225f88406e5a55909c5aff5269a86a7a9531534f7da2e4c303d8a318a721c3c0c95956809532fcf0e2449a6b525b16aedf5aa0de657ba637b391aafd255", "",
		"42831ec2217774244b7221b784d0d49ce3aa212f2c02a4e035c17e2329aca12e21d514b25466931c7d8f6a5aac84aa051ba30b396a0aac973d58e091473f5985" +
			"4d5c2af327cd64a62cf35abd2ba6fab4"},
	{"feffe9928665731c6d6a8f9467308308", "cafebabefacedbaddecaf888",
		"d9313225f88406e5a55909c5aff5269a86a7a9531534f7da2e4c303d8a318a721c3c0c95956809532fcf0e2449a6b525b16aedf5aa0de657ba637b39",
		"feedfacedeadbeeffeedfacedeadbeefabaddad2",
		"42831ec2217774244b7221b784d0d49ce3aa212f2c02a4e035c17e2329aca12e21d514b25466931c7d8f6a5aac84aa051ba30b396a0aac973d58e091" +
			"5bc94fbc3221a5db94fae95ae7121a47"},
}

func TestP121Published(t *testing.T) {
	for _, x := range published {
		b := box{unhex(t, x[0]), unhex(t, x[1]), unhex(t, x[2]), unhex(t, x[3])}
		b.is(t, unhex(t, x[4]))
		b.agrees(t)
	}
}

func TestP121EachLength(t *testing.T) {
	for text := range 70 {
		for more := range 70 {
			boxOf(text*100+more, text, more).agrees(t)
		}
	}
	for n := 70; n < 300; n++ {
		boxOf(n, n, 0).agrees(t)
		boxOf(n, 0, n).agrees(t)
	}
}

// At these lengths a number of a mask, or of bits, has one more byte.
func TestP121LongTexts(t *testing.T) {
	for _, n := range []int{1 << 12, 1 << 13, 1 << 16} {
		for _, by := range []int{-33, -32, -31, -17, -16, -15, -1, 0, 1, 15, 16, 17} {
			boxOf(n, n+by, 5).agrees(t)
			boxOf(n, 5, n+by).agrees(t)
		}
	}
	for _, n := range []int{1<<21 - 1, 1 << 21} {
		boxOf(n, 0, n).agrees(t)
	}
	boxOf(1, 1<<20+17, 1).agrees(t)
}

func TestP121EqualBytes(t *testing.T) {
	for _, a := range []byte{0, 1, 0x80, 0xff} {
		for _, b := range []byte{0, 1, 0x80, 0xff} {
			for _, n := range []int{0, 1, 15, 16, 17, 32, 40} {
				box{
					bytes.Repeat([]byte{a}, keySize), bytes.Repeat([]byte{b}, nonceSize),
					bytes.Repeat([]byte{b}, n), bytes.Repeat([]byte{a}, 40-n),
				}.agrees(t)
			}
		}
	}
}

// Each bit of what is handed in plays its part.
func TestP121EachBit(t *testing.T) {
	for _, x := range []box{boxOf(1, 0, 0), boxOf(2, 16, 16), boxOf(3, 35, 21)} {
		for bit := range 8 * keySize {
			box{turned(x.key, bit), x.nonce, x.text, x.more}.agrees(t)
		}
		for bit := range 8 * nonceSize {
			box{x.key, turned(x.nonce, bit), x.text, x.more}.agrees(t)
		}
		for bit := range 8 * len(x.text) {
			box{x.key, x.nonce, turned(x.text, bit), x.more}.agrees(t)
		}
		for bit := range 8 * len(x.more) {
			box{x.key, x.nonce, x.text, turned(x.more, bit)}.agrees(t)
		}
	}
}

// Nil is a text, and further bytes, without a byte.
func TestP121Nil(t *testing.T) {
	x := boxOf(4, 0, 0)
	want := x.theirs(t)
	x.text, x.more = nil, nil
	x.is(t, want)
	b, ok := gcm.Open(x.key, x.nonce, want, nil)
	if !ok || len(b) != 0 {
		t.Errorf("Open of a tag alone: %x, %v", b, ok)
	}
}

// wrong are bytes of other lengths than n: those of other keys of the kind, and those
// of which a part of the length is n.
func wrong(n int) [][]byte {
	l := [][]byte{nil, random(1, 256+n), random(1, 1<<16+n), random(1, 1<<20)}
	for m := range 130 {
		if m != n {
			l = append(l, random(m, 200)[:m], random(m, m))
		}
	}
	return l
}

func TestP121OtherKeysAndNonces(t *testing.T) {
	for _, x := range []box{boxOf(5, 0, 0), boxOf(6, 20, 7), boxOf(7, 48, 32)} {
		sealed := x.theirs(t)
		refused := func(x box) {
			t.Helper()
			x.isntSealed(t)
			x.isntOpened(t, "a box with a key or a nonce that can't be", sealed)
		}
		for _, b := range wrong(keySize) {
			refused(box{b, x.nonce, x.text, x.more})
		}
		for _, b := range wrong(nonceSize) {
			refused(box{x.key, b, x.text, x.more})
			refused(box{b, b, x.text, x.more})
		}
		for n := range keySize + nonceSize + 1 {
			if n != keySize {
				b := random(n, keySize+nonceSize)
				refused(box{b[:n], b[n:], x.text, x.more})
			}
		}
		refused(box{x.nonce, x.key, x.text, x.more})
		refused(box{})
	}
}

// A key with bytes behind it isn't the key; nor is it with 0 in place of those.
func TestP121CutAndPadded(t *testing.T) {
	x := boxOf(8, 20, 20)
	x.nonce[nonceSize-1], x.key[keySize-1] = 0, 0
	sealed := x.theirs(t)
	for _, y := range []box{
		{x.key[:keySize-1], x.nonce, x.text, x.more},
		{append(bytes.Clone(x.key), 0), x.nonce, x.text, x.more},
		{x.key, x.nonce[:nonceSize-1], x.text, x.more},
		{x.key, append(bytes.Clone(x.nonce), 0), x.text, x.more},
		{x.key, append(bytes.Clone(x.nonce), 0, 0, 0, 1), x.text, x.more},
	} {
		y.isntSealed(t)
		y.isntOpened(t, "a box by another length", sealed)
	}
}

// What is handed in stays as it is, and isn't kept; what is told is the caller's.
func TestP121NothingShared(t *testing.T) {
	for i := range 60 {
		room := boxOf(i, 200, 200)
		room.key, room.nonce = random(i, 100), random(i+1, 100)
		kept := room.clone()
		x := box{room.key[:keySize], room.nonce[:nonceSize], room.text[:i], room.more[:i/2]}
		want, text := x.theirs(t), bytes.Clone(x.text)
		first, _ := gcm.Seal(x.key, x.nonce, x.text, x.more)
		second, _ := gcm.Seal(x.key, x.nonce, x.text, x.more)
		sealed := append(bytes.Clone(want), random(i, 50)...)
		one, _ := gcm.Open(x.key, x.nonce, sealed[:len(want)], x.more)
		other, _ := gcm.Open(x.key, x.nonce, sealed[:len(want)], x.more)
		clear(first[:cap(first)])
		clear(one[:cap(one)])
		equal(t, "sealed second", second, want)
		equal(t, "opened second", other, text)
		equal(t, "the sealed bytes, and what is behind them", sealed, append(bytes.Clone(want), random(i, 50)...))
		equal(t, "the key, and what is behind it", room.key, kept.key)
		equal(t, "the nonce, and what is behind it", room.nonce, kept.nonce)
		equal(t, "the text, and what is behind it", room.text, kept.text)
		equal(t, "the further bytes, and what is behind them", room.more, kept.more)
		clear(room.text)
		clear(sealed)
		equal(t, "sealed, behind a change of the text", second, want)
		equal(t, "opened, behind a change of the sealed bytes", other, text)
	}
}

// All that is handed in may lie in the same memory.
func TestP121OneMemory(t *testing.T) {
	for i := range 80 {
		b := random(i, 100)
		x := box{b[i%7:][:keySize], b[i%5:][:nonceSize], b[i%11 : 20+i], b[i%13 : 30+i%50]}
		want := x.clone().theirs(t)
		x.is(t, want)
		equal(t, "what was handed in", b, random(i, 100))
	}
	sealed := boxOf(9, 50, 0).theirs(t)
	x := box{key: sealed[:keySize], nonce: sealed[4:][:nonceSize], text: sealed, more: sealed[9:]}
	x.agrees(t)
}

// Key, nonce and text are those that were sealed, over and over.
func TestP121OverAndOver(t *testing.T) {
	x := boxOf(10, 3, 2)
	for i := range 300 {
		want := x.theirs(t)
		x.is(t, want)
		x.key, x.nonce, x.text, x.more = want[len(want)-tagSize:], want[:nonceSize], want, x.text
		if i%9 == 0 {
			x.text = x.text[:i%40%len(x.text)]
		}
	}
}

func BenchmarkSeal(b *testing.B) {
	for _, n := range []int{0, 1 << 10, 1 << 20} {
		x := boxOf(11, n, 0)
		b.Run(fmt.Sprint(n), func(b *testing.B) {
			for b.Loop() {
				gcm.Seal(x.key, x.nonce, x.text, x.more)
			}
		})
	}
}
