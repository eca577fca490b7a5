package sign_test

import (
	"bytes"
	"crypto/ed25519"
	"crypto/sha512"
	"encoding/hex"
	"math/big"
	"math/rand"
	"slices"
	"testing"

	"ratline/api"
	"ratline/curve"
	"ratline/scalar"
	"ratline/sign"
)

const (
	size  = 32
	whole = 64
)

// published are seeds, their public keys, texts and their signatures.
var published = []struct{ seed, public, text, signature string }{
	{
		"9d61b19deffd5a60ba844af492ec2cc44449c5697b326919703bac031cae7f60",
		"d75a980182b10ab7d54bfed3c964073a0ee172f3daa62325af021a68f707511a",
		"",
		"e5564300c360ac729086e2cc806e828a84877f1eb8e5d974d873e06522490155" +
			"5fb8821590a33bacc61e39701cf9b46bd25bf5f0595bbe24655141438e7a100b",
	},
	{
		"4ccd089b28ff96da9db6c346ec114e0f5b8a319f35aba624da8cf6ed4fb8a6fb",
		"3d4017c3e843895a92b70aa74d1b7ebc9c982ccf2ec4968cc0cd55f12af4660c",
		"72",
		"92a009a9f0d4cab8720e820b5f642540a2b27b5416503f8fb3762223ebdb69da" +
			"085ac1e43e15996e458f3613d0f11d8c387b2eaeb4302aeeb00d291612bb0c00",
	},
	{
		"c5aa8df43f9f837bedb7442f31dcb7b166d38535076f094b85ce3a2e0b4458f7",
		"fc51cd8e6218a1a38da47ed00230f0580816ed13ba3303ac5deb911548908025",
		"af82",
		"6291d657deec24024827e69c3abe01a30ce548a284743a445e3680d7db5ac3ac" +
			"18ff9b538d16f290ae67f760984dc6594a7c15e9716ed28dc027beceea1ec40a",
	},
	{
		"833fe62409237b9d62ec77587520911e9a759cec1d19755b7da901b96dca3d42",
		"ec172b93ad5e563bf4932c70e1245034c35467ef2efd4d64ebf819683467e2bf",
		"ddaf35a193617abacc417349ae20413112e6fa4e89a97ea20a9eeee64b55d39a" +
			"2192992a274fc1a836ba3c23a3feebbd454d4423643ce80e2a9ac94fa54ca49f",
		"dc2a4459e7369633a52b1bf277839a00201009a3efbf3ecb69bea2186c26b589" +
			"09351fc9ac90b3ecfdfbc7c66431e0303dca179c138ac17ad9bef1177331a704",
	},
}

// edges are lengths of texts at which what is digested, with 32 or 64 bytes
// ahead of it, takes one block more, or fills one.
var edges = []int{0, 1, 31, 32, 47, 48, 49, 63, 64, 65, 79, 80, 81, 95, 96, 97, 111, 112, 128, 175, 176, 191, 192, 208, 300, 5000}

// random tells n bytes, the same ones for the same seed.
func random(seed, n int) []byte {
	b := make([]byte, n)
	rand.New(rand.NewSource(int64(seed))).Read(b)
	return b
}

// seeds are those of equal bytes and of one bit, and some drawn.
func seeds() [][]byte {
	l := [][]byte{make([]byte, size), bytes.Repeat([]byte{255}, size), bytes.Repeat([]byte{128}, size)}
	for bit := range 8 * size {
		if bit%29 == 0 {
			b := make([]byte, size)
			b[bit/8] = 1 << (bit % 8)
			l = append(l, b)
		}
	}
	for i := range 30 {
		l = append(l, random(i, size))
	}
	return l
}

// wrongSeeds are those of other lengths than 32.
func wrongSeeds() [][]byte {
	l := [][]byte{nil, random(1, 1<<16), random(1, 256+size), random(1, 1<<16+size)}
	for n := range 130 {
		if n != size {
			l = append(l, random(n, 200)[:n], random(n, n))
		}
	}
	return l
}

func unhex(t *testing.T, text string) []byte {
	t.Helper()
	b, err := hex.DecodeString(text)
	if err != nil {
		t.Fatal(err)
	}
	return b
}

func equal(t *testing.T, what string, got, want []byte) {
	t.Helper()
	if !bytes.Equal(got, want) {
		t.Errorf("%s: %x, not %x", what, got, want)
	}
}

// public asks Public for what it tells, without an error.
func public(t *testing.T, seed []byte) []byte {
	t.Helper()
	b, e := sign.Public(seed)
	if e != api.OK || len(b) != size {
		t.Fatalf("Public(%x): %x, %v", seed, b, e)
	}
	return b
}

// signed asks Sign for what it tells, without an error.
func signed(t *testing.T, seed, text []byte) []byte {
	t.Helper()
	b, e := sign.Sign(seed, text)
	if e != api.OK || len(b) != whole {
		t.Fatalf("Sign by %x of %x: %x, %v", seed, text, b, e)
	}
	return b
}

// theirs tells by another program a seed's public key and a text's signature.
func theirs(seed, text []byte) ([]byte, []byte) {
	key := ed25519.NewKeyFromSeed(seed)
	return key.Public().(ed25519.PublicKey), ed25519.Sign(key, text)
}

// holds asks that Holds tells just this.
func holds(t *testing.T, what string, public, text, signature []byte, want bool) {
	t.Helper()
	if got := sign.Holds(public, text, signature); got != want {
		t.Errorf("%s: Holds is %v; public key %x, text %x, signature %x", what, got, public, text, signature)
	}
}

// order tells L.
func order() *big.Int {
	l, _ := new(big.Int).SetString("27742317777372353535851937790883648493", 10)
	return l.Add(l, new(big.Int).Lsh(big.NewInt(1), 252))
}

// number tells the number of b, the lowest byte first.
func number(b []byte) *big.Int {
	b = bytes.Clone(b)
	slices.Reverse(b)
	return new(big.Int).SetBytes(b)
}

// lowFirst tells the 32 bytes of n, the lowest first.
func lowFirst(n *big.Int) []byte {
	b := n.FillBytes(make([]byte, size))
	slices.Reverse(b)
	return b
}

// secret tells a seed's secret by the chapter's words.
func secret(seed []byte) *big.Int {
	d := sha512.Sum512(seed)
	n := number(d[:size])
	for _, bit := range []int{0, 1, 2, 255} {
		n.SetBit(n, bit, 0)
	}
	return n.SetBit(n, 254, 1)
}

func TestP101Published(t *testing.T) {
	for _, x := range published {
		seed, text, signature := unhex(t, x.seed), unhex(t, x.text), unhex(t, x.signature)
		equal(t, "Public", public(t, seed), unhex(t, x.public))
		equal(t, "Sign", signed(t, seed, text), signature)
		holds(t, "published", unhex(t, x.public), text, signature, true)
		holds(t, "a byte more", unhex(t, x.public), append(text, 0), signature, false)
		for _, y := range published {
			if x != y {
				holds(t, "another key", unhex(t, y.public), text, signature, false)
				holds(t, "another text", unhex(t, x.public), unhex(t, y.text), signature, false)
				holds(t, "another signature", unhex(t, x.public), text, unhex(t, y.signature), false)
			}
		}
	}
}

func TestP101Seeds(t *testing.T) {
	for i, seed := range seeds() {
		key, signature := theirs(seed, random(i, i))
		equal(t, "Public", public(t, seed), key)
		equal(t, "Sign", signed(t, seed, random(i, i)), signature)
		holds(t, "Holds", key, random(i, i), signature, true)
	}
}

// Each bit of a seed plays a part.
func TestP101EachBitOfASeed(t *testing.T) {
	for bit := range 8 * size {
		seed := random(7, size)
		seed[bit/8] ^= 1 << (bit % 8)
		key, _ := theirs(seed, nil)
		equal(t, "Public", public(t, seed), key)
	}
}

func TestP101EachLength(t *testing.T) {
	for n := range 270 {
		text := random(n, n)
		key, signature := theirs(random(3, size), text)
		equal(t, "Sign", signed(t, random(3, size), text), signature)
		holds(t, "Holds", key, text, signature, true)
	}
	for _, n := range []int{1 << 14, 1 << 20, 1<<20 + 1} {
		text := random(n, n)
		_, signature := theirs(random(3, size), text)
		equal(t, "Sign of a long text", signed(t, random(3, size), text), signature)
	}
}

func TestP101NoText(t *testing.T) {
	key, signature := theirs(random(4, size), nil)
	for _, text := range [][]byte{nil, {}} {
		equal(t, "Sign of no text", signed(t, random(4, size), text), signature)
		holds(t, "no text", key, text, signature, true)
	}
	holds(t, "a text of a byte 0", key, []byte{0}, signature, false)
}

func TestP101WrongSeeds(t *testing.T) {
	for _, seed := range wrongSeeds() {
		if b, e := sign.Public(seed); e != api.Arg || len(b) != 0 {
			t.Errorf("Public of %d bytes: %x, %v", len(seed), b, e)
		}
		for _, text := range [][]byte{nil, []byte("text")} {
			if b, e := sign.Sign(seed, text); e != api.Arg || len(b) != 0 {
				t.Errorf("Sign by %d bytes: %x, %v", len(seed), b, e)
			}
		}
		if s := sign.Secret(seed); !s.Same(scalar.S{}) {
			t.Errorf("Secret of %d bytes: %x", len(seed), s.Bytes())
		}
	}
}

func TestP101Secret(t *testing.T) {
	above := 0
	for _, seed := range seeds() {
		s := sign.Secret(seed)
		n := secret(seed)
		if n.Cmp(order()) >= 0 {
			above++
		}
		equal(t, "Secret", s.Bytes(), lowFirst(n.Mod(n, order())))
		equal(t, "the base as often as the secret", curve.Base().Mul(s).Bytes(), public(t, seed))
	}
	// All are, for bit 254 is set.
	if above != len(seeds()) {
		t.Errorf("%d of %d secrets are above L", above, len(seeds()))
	}
}

// Which bits are clamped shows in secrets whose digests have them set, or not.
func TestP101SecretIsClamped(t *testing.T) {
	seen := map[int]int{}
	for i := range 200 {
		seed := random(i, size)
		d := sha512.Sum512(seed)
		for _, bit := range []int{0, 1, 2, 3, 253, 254, 255} {
			seen[2*bit+int(d[bit/8]>>(bit%8)&1)]++
		}
		n := secret(seed)
		equal(t, "Secret", sign.Secret(seed).Bytes(), lowFirst(n.Mod(n, order())))
	}
	if len(seen) != 14 {
		t.Errorf("%d of 14 bits were seen", len(seen))
	}
}

func TestP101SignatureOfAnotherLength(t *testing.T) {
	seed, text := random(5, size), []byte("text")
	key, signature := theirs(seed, text)
	holds(t, "63 bytes", key, text, signature[:63], false)
	long := slices.Concat(signature, signature, make([]byte, 100))
	for n := range long {
		holds(t, "its beginning, or more", key, text, long[:n], n == whole)
		holds(t, "noughts", key, text, make([]byte, n), false)
	}
	holds(t, "nil", key, text, nil, false)
	holds(t, "half of it", key, text, signature[size:], false)
	holds(t, "noughts ahead", key, text, append([]byte{0}, signature...), false)
	holds(t, "very many bytes", key, text, bytes.Repeat(signature, 1<<10), false)
	holds(t, "256 bytes more", key, text, append(bytes.Clone(signature), make([]byte, 256)...), false)
}

func TestP101PublicKeyOfAnotherLength(t *testing.T) {
	seed, text := random(5, size), []byte("text")
	key, signature := theirs(seed, text)
	long := slices.Concat(key, key, make([]byte, 300))
	for n := range long {
		holds(t, "its beginning, or more", long[:n], text, signature, n == size)
		holds(t, "noughts", make([]byte, n), text, signature, false)
	}
	holds(t, "nil", nil, text, signature, false)
	holds(t, "its seed and it", append(bytes.Clone(seed), key...), text, signature, false)
	holds(t, "nothing at all", nil, nil, nil, false)
}

// Each bit of a key, a text and a signature plays a part.
func TestP101EachBit(t *testing.T) {
	text := random(6, 40)
	key, signature := theirs(random(6, size), text)
	for what, b := range map[string][]byte{"key": key, "text": text, "signature": signature} {
		for bit := range 8 * len(b) {
			b[bit/8] ^= 1 << (bit % 8)
			holds(t, what+" with a bit turned", key, text, signature, false)
			b[bit/8] ^= 1 << (bit % 8)
		}
	}
	holds(t, "all turned back", key, text, signature, true)
}

// A scalar has one form alone, though all that are the same modulo L would do.
func TestP101ScalarNotExact(t *testing.T) {
	for i := range 8 {
		text := random(i, i)
		key, signature := theirs(random(i, size), text)
		n := number(signature[size:])
		for n.Add(n, order()).BitLen() <= 8*size {
			holds(t, "L more", key, text, append(bytes.Clone(signature[:size]), lowFirst(n)...), false)
		}
		n.Sub(order(), number(signature[size:]))
		holds(t, "L less it", key, text, append(bytes.Clone(signature[:size]), lowFirst(n)...), false)
		holds(t, "255 everywhere", key, text, append(bytes.Clone(signature[:size]), bytes.Repeat([]byte{255}, size)...), false)
		holds(t, "the halves changed round", key, text, append(bytes.Clone(signature[size:]), signature[:size]...), false)
	}
}

// What is handed in stays as it is, and what is behind its end too.
func TestP101HandedIn(t *testing.T) {
	for _, n := range edges {
		seed, text := random(8, 100)[:size], random(n, n+100)[:n]
		key := append(public(t, seed), 1, 2, 3)
		signature := append(signed(t, seed, text), 4, 5, 6)
		told := [][]byte{bytes.Clone(key), bytes.Clone(signature)}
		holds(t, "Holds", key[:size], text, signature[:whole], true)
		holds(t, "Holds of another key", key[1:size+1], text, signature[:whole], false)
		sign.Secret(seed)
		equal(t, "the seed", seed[:100], random(8, 100))
		equal(t, "the text", text[:n+100], random(n, n+100))
		equal(t, "the key", key, told[0])
		equal(t, "the signature", signature, told[1])
	}
}

// What is told is the caller's, and hangs on nothing that was told before.
func TestP101Told(t *testing.T) {
	seed, text := random(9, size), random(9, 50)
	key, signature := theirs(seed, text)
	first, second := signed(t, seed, text), signed(t, seed, text)
	one, other := public(t, seed), public(t, seed)
	clear(first[:cap(first)])
	clear(one[:cap(one)])
	equal(t, "Sign, told second", second, signature)
	equal(t, "Public, told second", other, key)
	equal(t, "Sign, told once more", signed(t, seed, text), signature)
	equal(t, "Public, told once more", public(t, seed), key)
	clear(seed)
	clear(text)
	equal(t, "Sign behind a change of the seed", second, signature)
	equal(t, "Public behind a change of the seed", other, key)
}

// One list may be handed in as all.
func TestP101OneListAsAll(t *testing.T) {
	seed := random(10, size)
	key, signature := theirs(seed, seed)
	equal(t, "a seed as its text", signed(t, seed, seed), signature)
	all := append(bytes.Clone(signature), key...)
	_, signature = theirs(seed, key)
	holds(t, "a key as its text", key, key, signature, true)
	holds(t, "a key behind a signature", all[whole:], seed, all[:whole], true)
	holds(t, "a signature as its text", key, all[:whole], all[:whole], false)
}

func BenchmarkSign(b *testing.B) {
	seed, text := random(1, size), random(1, 100)
	for b.Loop() {
		sign.Sign(seed, text)
	}
}

func BenchmarkHolds(b *testing.B) {
	text := random(1, 100)
	key, signature := theirs(random(1, size), text)
	for b.Loop() {
		sign.Holds(key, text, signature)
	}
}
