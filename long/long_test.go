package long_test

import (
	"bytes"
	"crypto/sha512"
	"encoding/hex"
	"math/rand"
	"strings"
	"testing"

	"ratline/long"
)

// published are texts and their digests.
var published = []struct{ text, want string }{
	{
		"",
		"cf83e1357eefb8bdf1542850d66d8007d620e4050b5715dc83f4a921d36ce9ce" +
			"47d0d13c5d85f2b0ff8318d2877eec2f63b931bd47417a81a538327af927da3e",
	},
	{
		"abc",
		"ddaf35a193617abacc417349ae20413112e6fa4e89a97ea20a9eeee64b55d39a" +
			"2192992a274fc1a836ba3c23a3feebbd454d4423643ce80e2a9ac94fa54ca49f",
	},
	{
		"abcdbcdecdefdefgefghfghighijhijkijkljklmklmnlmnomnopnopq",
		"204a8fc6dda82f0a0ced7beb8e08a41657c16ef468b228a8279be331a703c335" +
			"96fd15c13b1b07f9aa1d3bea57789ca031ad85c7a71dd70354ec631238ca3445",
	},
	{
		"abcdefghbcdefghicdefghijdefghijkefghijklfghijklmghijklmnhijklmnoijklmnopjklmnopqklmnopqrlmnopqrsmnopqrstnopqrstu",
		"8e959b75dae313da8cf4f72814fc143f8f7779c6eb9f7fa17299aeadb6889018" +
			"501d289e4900f7e4331b99dec4b5433ac7d329eeb6dd26545e96e55b874be909",
	},
	{
		strings.Repeat("a", 1e6),
		"e718483d0ce769644e2e42c7bc15b4638e1f98b13b2044285632a803afa973eb" +
			"de0ff244877ea60a4cb0432ce577c31beb009c5c2c49aa2e4eadb217ad8cc09b",
	},
}

// edges are lengths at which what stands behind the bytes takes one block
// more, or none of a block is left.
var edges = []int{0, 1, 110, 111, 112, 113, 127, 128, 129, 239, 240, 241, 255, 256, 257, 368, 384, 2000}

// random tells n bytes, the same ones each time.
func random(n int) []byte {
	b := make([]byte, n)
	rand.New(rand.NewSource(int64(n))).Read(b)
	return b
}

// asked tells the digest by another program.
func asked(b []byte) []byte {
	d := sha512.Sum512(b)
	return d[:]
}

// parted tells b in parts that end ahead of the places of ends.
func parted(b []byte, ends ...int) [][]byte {
	var parts [][]byte
	at := 0
	for _, end := range append(ends, len(b)) {
		parts, at = append(parts, b[at:end]), end
	}
	return parts
}

func equal(t *testing.T, what string, got, want []byte) {
	t.Helper()
	if !bytes.Equal(got, want) {
		t.Errorf("%s: %x, not %x", what, got, want)
	}
}

// tells asks that Sum and Of tell this digest of b.
func tells(t *testing.T, b, digest []byte) {
	t.Helper()
	d := long.Sum(b)
	equal(t, "Sum", d[:], digest)
	equal(t, "Of", long.Of(b), digest)
}

func TestP31Published(t *testing.T) {
	for _, x := range published {
		digest, err := hex.DecodeString(x.want)
		if err != nil {
			t.Fatal(err)
		}
		tells(t, []byte(x.text), digest)
	}
}

func TestP31EachLength(t *testing.T) {
	for n := range 700 {
		tells(t, random(n), asked(random(n)))
	}
	tells(t, random(1<<20), asked(random(1<<20)))
}

// Words of ones go round at each addition, those of noughts at few.
func TestP31EqualBytes(t *testing.T) {
	for _, n := range edges {
		for x := range 256 {
			b := bytes.Repeat([]byte{byte(x)}, n)
			tells(t, b, asked(b))
		}
	}
}

func TestP31EachBit(t *testing.T) {
	for n := 1; n < 150; n++ {
		for bit := range 8 {
			b := make([]byte, n)
			b[n-1] = 1 << bit
			tells(t, b, asked(b))
		}
	}
}

func TestP31NoBytes(t *testing.T) {
	none := asked(nil)
	tells(t, nil, none)
	equal(t, "Of no parts", long.Of(), none)
	equal(t, "Of a nil list", long.Of([][]byte(nil)...), none)
	equal(t, "Of parts without bytes", long.Of(nil, []byte{}, nil), none)
}

func TestP31Parts(t *testing.T) {
	equal(t, "Of three parts", long.Of([]byte("a"), nil, []byte("b"), []byte{}, []byte("c")), asked([]byte("abc")))
	equal(t, "Of parts the other way round", long.Of([]byte("c"), []byte("ab")), asked([]byte("cab")))
	b := random(200)
	equal(t, "Of one part twice", long.Of(b, b), asked(append(random(200), b...)))
}

// What is handed in stays as it is, and what is behind its end too.
func TestP31HandedIn(t *testing.T) {
	for _, n := range edges {
		b := random(n + 300)
		parts := [][]byte{b[:n], nil, b[:n/2], b[n : n+7]}
		long.Sum(b[:n])
		long.Of(parts...)
		equal(t, "what was handed in", b, random(n+300))
		for i, size := range []int{n, 0, n / 2, 7} {
			if len(parts[i]) != size || (parts[i] == nil) != (i == 1) {
				t.Errorf("part %d of %d bytes has changed: %x", i, n, parts[i])
			}
		}
	}
}

// What is told is the caller's, and hangs on nothing that was told before.
func TestP31Told(t *testing.T) {
	for _, n := range edges {
		b := random(n)
		told := long.Of(b)
		clear(told)
		tells(t, b, asked(random(n)))
		first, second := long.Of(b), long.Of(b)
		clear(first)
		equal(t, "what was told second", second, asked(random(n)))
		kept := long.Sum(b)
		clear(b)
		equal(t, "Sum behind a change of the bytes", kept[:], asked(random(n)))
		equal(t, "Of behind a change of the bytes", second, asked(random(n)))
	}
}

func TestP33TwoParts(t *testing.T) {
	for _, n := range []int{1, 111, 112, 128, 129, 256, 400} {
		b := random(n)
		for end := range n + 1 {
			equal(t, "Of two parts", long.Of(parted(b, end)...), asked(b))
		}
	}
}

func TestP33ThreeParts(t *testing.T) {
	b := random(270)
	digest := asked(b)
	for first := 0; first <= len(b); first += 3 {
		for second := first; second <= len(b); second++ {
			equal(t, "Of three parts", long.Of(parted(b, first, second)...), digest)
		}
	}
}

func TestP33EvenParts(t *testing.T) {
	b := random(1031)
	for size := 1; size <= 260; size++ {
		var ends []int
		for end := size; end < len(b); end += size {
			ends = append(ends, end)
		}
		equal(t, "Of even parts", long.Of(parted(b, ends...)...), asked(b))
	}
}

func TestP33AnyParts(t *testing.T) {
	r := rand.New(rand.NewSource(33))
	for range 2000 {
		b := random(r.Intn(900))
		var ends []int
		for end := r.Intn(300); end < len(b); end += r.Intn(300) {
			ends = append(ends, end)
		}
		equal(t, "Of any parts", long.Of(parted(b, ends...)...), asked(b))
	}
}

func BenchmarkSum(b *testing.B) {
	text := random(1 << 16)
	b.SetBytes(int64(len(text)))
	for b.Loop() {
		long.Sum(text)
	}
}
