package aes_test

import (
	"bytes"
	"testing"

	"ratline/aes"
)

// schedules are keys and their words, as published.
var schedules = []string{
	"2b7e151628aed2a6abf7158809cf4f3c" +
		"a0fafe1788542cb123a339392a6c7605" + "f2c295f27a96b9435935807a7359f67f" +
		"3d80477d4716fe3e1e237e446d7a883b" + "ef44a541a8525b7fb671253bdb0bad00" +
		"d4d1c6f87c839d87caf2b8bc11f915bc" + "6d88a37a110b3efddbf98641ca0093fd" +
		"4e54f70e5f5fc9f384a64fb24ea6dc4f" + "ead27321b58dbad2312bf5607f8d292f" +
		"ac7766f319fadc2128d12941575c006e" + "d014f9a8c9ee2589e13f0cc8b6630ca6",
	"000102030405060708090a0b0c0d0e0f" +
		"d6aa74fdd2af72fadaa678f1d6ab76fe" + "b692cf0b643dbdf1be9bc5006830b3fe" +
		"b6ff744ed2c2c9bf6c590cbf0469bf41" + "47f7f7bc95353e03f96c32bcfd058dfd" +
		"3caaa3e8a99f9deb50f3af57adf622aa" + "5e390f7df7a69296a7553dc10aa31f6b" +
		"14f9701ae35fe28c440adf4d4ea9c026" + "47438735a41c65b9e016baf4aebf7ad2" +
		"549932d1f08557681093ed9cbe2c974e" + "13111d7fe3944a17f307a78b4d2b30c5",
	"00000000000000000000000000000000" +
		"62636363626363636263636362636363" + "9b9898c9f9fbfbaa9b9898c9f9fbfbaa" +
		"90973450696ccffaf2f457330b0fac99" + "ee06da7b876a1581759e42b27e91ee2b" +
		"7f2e2b88f8443e098dda7cbbf34b9290" + "ec614b851425758c99ff09376ab49ba7" +
		"217517873550620bacaf6b3cc61bf09b" + "0ef903333ba9613897060a04511dfa9f" +
		"b1d4d8e28a7db9da1d7bb3de4c664941" + "b4ef5bcb3e92e21123e951cf6f8f188e",
}

// schedule tells a key's words, word by word, by the box as published.
func schedule(t *testing.T, key []byte) []byte {
	t.Helper()
	box := boxes(t)
	w := bytes.Clone(key)
	power := byte(1)
	for i := 4; i < 44; i++ {
		last := bytes.Clone(w[4*i-4:])
		if i%4 == 0 {
			last = []byte{box[last[1]] ^ power, box[last[2]], box[last[3]], box[last[0]]}
			power = product(power, 2)
		}
		for j := range 4 {
			w = append(w, w[4*i-16+j]^last[j])
		}
	}
	return w
}

// expands asks that Expand tells a key's words.
func expands(t *testing.T, key, want []byte) {
	t.Helper()
	got, ok := aes.Expand(key)
	if !ok || len(got) != expanded || !bytes.Equal(got, want) {
		t.Errorf("Expand of %x: %x, %v, not %x", key, got, ok, want)
	}
}

func TestP111ExpandPublished(t *testing.T) {
	for _, x := range schedules {
		w := unhex(t, x)
		expands(t, w[:size], w)
	}
}

func TestP111ExpandEachByte(t *testing.T) {
	for at := range size {
		for b := range 256 {
			key := make([]byte, size)
			key[at] = byte(b)
			expands(t, key, schedule(t, key))
			key = random(at, size)
			key[at] = byte(b)
			expands(t, key, schedule(t, key))
		}
	}
	for b := range 256 {
		key := bytes.Repeat([]byte{byte(b)}, size)
		expands(t, key, schedule(t, key))
	}
}

func TestP111ExpandAny(t *testing.T) {
	for i := range 500 {
		key := random(i, size)
		expands(t, key, schedule(t, key))
	}
}

// wrong are bytes of other lengths than 16: those of other keys of the kind, and
// those of which a part of the length is 16.
func wrong() [][]byte {
	l := [][]byte{nil, random(1, 256+size), random(1, 1<<16+size), random(1, 1<<20)}
	for n := range 130 {
		if n != size {
			l = append(l, random(n, 200)[:n], random(n, n))
		}
	}
	return l
}

func TestP111ExpandOtherLengths(t *testing.T) {
	for _, key := range wrong() {
		if b, ok := aes.Expand(key); ok || len(b) != 0 {
			t.Errorf("Expand of %d bytes: %x, %v", len(key), b, ok)
		}
	}
}

// What is handed in stays as it is, and isn't kept; what is told is the caller's.
func TestP111NothingShared(t *testing.T) {
	for i := range 20 {
		key, want := random(i, 400)[:size], schedule(t, random(i, size))
		first, _ := aes.Expand(key)
		second, _ := aes.Expand(key)
		equal(t, "the key, and what is behind it", key[:400], random(i, 400))
		clear(first[:cap(first)])
		equal(t, "told second", second, want)
		equal(t, "the key behind a change of what was told", key[:400], random(i, 400))
		clear(key)
		equal(t, "behind a change of the key", second, want)
		expands(t, random(i, size), want)
	}
}
