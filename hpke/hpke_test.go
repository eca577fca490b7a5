package hpke_test

import (
	"bytes"
	"crypto/aes"
	"crypto/cipher"
	"crypto/ecdh"
	"crypto/hkdf"
	"crypto/sha256"
	"encoding/hex"
	"math/rand"
	"strings"
	"testing"

	"ratline/api"
	"ratline/hpke"
)

const (
	size    = 32
	tagSize = 16
)

// The two names.
const (
	pairs = "KEM\x00\x20"
	boxes = "HPKE\x00\x20\x00\x01\x00\x01"
)

// published are seeds, and their pairs.
var published = []struct{ seed, private, public string }{
	{
		"6db9df30aa07dd42ee5e8181afdb977e538f5e1fec8a06223f33f7013e525037",
		"4612c550263fc8ad58375df3f557aac531d26850903e55a9f23f21d8534e8ac8",
		"3948cfe0ad1ddb695d780e59077195da6c56506b027329794ab02bca80815c4d",
	},
	{
		"7268600d403fce431561aef583ee1613527cff655c1343f29812e66706df3234",
		"52c4a758a802cd8b936eceea314432798d5baf2d7e9235dc084ab1b9cfa2f736",
		"37fda3567bdbd628e88668c3c8d7e97d1d1253b6d4ea6d44c150f741f1bf4431",
	},
	{
		"dac33b0e9db1b59dbbea58d59a14e7b5896e9bdf98fad6891e99d1686492b9ee",
		"497b4502664cfea5d5af0b39934dac72242a74f8480451e1aee7d6a53320333d",
		"430f4b9859665145a6b1ba274024487bd66f03a2dd577d7753c68d7d7d00c00c",
	},
	{
		"1ac01f181fdf9f352797655161c58b75c656a6cc2716dcb66372da835542e1df",
		"8057991eef8f1f1af18f4a9491d16a1ce333f695d4db8e38da75975c4478e0fb",
		"4310ee97d88cc1f088a5576c77ab0cf5c3ac797f3d95139c6c84b5429c59662a",
	},
	{
		"683ae0da1d22181e74ed2e503ebf82840deb1d5e872cade20f4b458d99783e31",
		"33d196c830a12f9ac65d6e565a590d80f04ee9b19c83c87f2c170d972a812848",
		"194141ca6c3c3beb4792cd97ba0ea1faff09d98435012345766ee33aae2d7664",
	},
}

// random tells n bytes, the same ones for the same seed.
func random(seed, n int) []byte {
	b := make([]byte, n)
	rand.New(rand.NewSource(int64(seed))).Read(b)
	return b
}

func unhex(t *testing.T, text string) []byte {
	t.Helper()
	b, err := hex.DecodeString(text)
	if err != nil {
		t.Fatal(err)
	}
	return b
}

func equal(t *testing.T, what string, got, want []byte) {
	t.Helper()
	if !bytes.Equal(got, want) {
		t.Errorf("%s: %x, not %x", what, got, want)
	}
}

// turned tells b with one bit turned.
func turned(b []byte, bit int) []byte {
	b = bytes.Clone(b)
	b[bit/8] ^= 1 << (bit % 8)
	return b
}

// wrong are bytes that haven't as many as a key and an enc have.
func wrong() [][]byte {
	l := [][]byte{nil, random(1, 256+size), random(1, 1<<16+size), make([]byte, api.MaxBytes)}
	for n := range 3*size + 1 {
		if n != size {
			l = append(l, random(n, n))
		}
	}
	return l
}

// lost are the points of which all products are 0: 0, 1, p - 1, two others, and 0 and
// 1 with the prime on top, each with and without the highest bit.
func lost(t *testing.T) [][]byte {
	t.Helper()
	var l [][]byte
	for _, text := range []string{
		strings.Repeat("00", size),
		"01" + strings.Repeat("00", size-1),
		"ec" + strings.Repeat("ff", size-2) + "7f",
		"e0eb7a7c3b41b8ae1656e3faf19fc46ada098deb9c32b1fd866205165f49b800",
		"5f9c95bca3508c24b1d0b1559c83ef5b04445cc4581c8e86d8224eddd09f1157",
		"ed" + strings.Repeat("ff", size-2) + "7f",
		"ee" + strings.Repeat("ff", size-2) + "7f",
	} {
		low := unhex(t, text)
		l = append(l, low, turned(low, 8*size-1))
	}
	return l
}

// points are public keys that aren't lost, some of them in another form than those
// that come of a private key: the prime on top, or the highest bit set.
func points() [][]byte {
	l := [][]byte{bytes.Repeat([]byte{255}, size), bytes.Repeat([]byte{0xaa}, size), append([]byte{9}, make([]byte, size-1)...)}
	for more := 2; more < 19; more += 5 {
		b := bytes.Repeat([]byte{255}, size)
		b[0], b[size-1] = byte(0xed+more), 0x7f
		l = append(l, b, turned(b, 8*size-1))
	}
	for seed := range 20 {
		b := random(seed, size)
		l = append(l, b, turned(b, 8*size-1))
	}
	return l
}

// keys are private keys, clamped or not.
func keys() [][]byte {
	l := [][]byte{make([]byte, size), bytes.Repeat([]byte{255}, size), bytes.Repeat([]byte{0x55}, size)}
	for seed := range 20 {
		l = append(l, random(100+seed, size))
	}
	return l
}

// extracted tells by another program what is extracted with a label.
func extracted(t *testing.T, salt []byte, name, label string, secret []byte) []byte {
	t.Helper()
	b, err := hkdf.Extract(sha256.New, append([]byte("HPKE-v1"+name+label), secret...), salt)
	if err != nil {
		t.Fatal(err)
	}
	return b
}

// expanded tells by another program what is expanded with a label.
func expanded(t *testing.T, secret []byte, name, label string, info []byte, n int) []byte {
	t.Helper()
	b, err := hkdf.Expand(sha256.New, secret, "\x00"+string([]byte{byte(n)})+"HPKE-v1"+name+label+string(info), n)
	if err != nil {
		t.Fatal(err)
	}
	return b
}

// product tells by another program what two share.
func product(t *testing.T, private, public []byte) []byte {
	t.Helper()
	k, err := ecdh.X25519().NewPrivateKey(private)
	if err != nil {
		t.Fatal(err)
	}
	p, err := ecdh.X25519().NewPublicKey(public)
	if err != nil {
		t.Fatal(err)
	}
	b, err := k.ECDH(p)
	if err != nil {
		t.Fatal(err)
	}
	return b
}

// publicOf tells by another program the public key of a private one.
func publicOf(t *testing.T, private []byte) []byte {
	t.Helper()
	k, err := ecdh.X25519().NewPrivateKey(private)
	if err != nil {
		t.Fatal(err)
	}
	return k.PublicKey().Bytes()
}

// pairOf tells by another program the pair of a seed.
func pairOf(t *testing.T, seed []byte) (private, public []byte) {
	t.Helper()
	private = expanded(t, extracted(t, nil, pairs, "dkp_prk", seed), pairs, "sk", nil, size)
	return private, publicOf(t, private)
}

// sharedOf tells by another program the shared secret that comes of d.
func sharedOf(t *testing.T, d, enc, public []byte) []byte {
	t.Helper()
	info := append(bytes.Clone(enc), public...)
	return expanded(t, extracted(t, nil, pairs, "eae_prk", d), pairs, "shared_secret", info, size)
}

// wrapped tells by another program what Wrap has to tell.
func wrapped(t *testing.T, public, seed []byte) (secret, enc []byte) {
	t.Helper()
	private, enc := pairOf(t, seed)
	return sharedOf(t, product(t, private, public), enc, public), enc
}

// unwrapped tells by another program what Unwrap has to tell.
func unwrapped(t *testing.T, private, enc []byte) []byte {
	t.Helper()
	return sharedOf(t, product(t, private, enc), enc, publicOf(t, private))
}

// boxer tells by another program what seals, by a shared secret and an info, and the
// nonce for it.
func boxer(t *testing.T, shared, info []byte) (cipher.AEAD, []byte) {
	t.Helper()
	c := append([]byte{0}, extracted(t, nil, boxes, "psk_id_hash", nil)...)
	c = append(c, extracted(t, nil, boxes, "info_hash", info)...)
	secret := extracted(t, shared, boxes, "secret", nil)
	block, err := aes.NewCipher(expanded(t, secret, boxes, "key", c, 16))
	if err != nil {
		t.Fatal(err)
	}
	g, err := cipher.NewGCM(block)
	if err != nil {
		t.Fatal(err)
	}
	return g, expanded(t, secret, boxes, "base_nonce", c, 12)
}

// box is what Seal is handed, and the private key that opens it.
type box struct {
	private, public, seed, info, text, more []byte
}

// boxOf tells a box, the same one for the same seed.
func boxOf(t *testing.T, seed, info, text, more int) box {
	t.Helper()
	private, public := pairOf(t, random(seed, size))
	return box{private, public, random(seed+1, size), random(seed+2, info), random(seed+3, text), random(seed+4, more)}
}

// clone tells a box in a memory of its own.
func (x box) clone() box {
	return box{
		bytes.Clone(x.private), bytes.Clone(x.public), bytes.Clone(x.seed),
		bytes.Clone(x.info), bytes.Clone(x.text), bytes.Clone(x.more),
	}
}

// theirs tells by another program what Seal has to tell.
func (x box) theirs(t *testing.T) (enc, sealed []byte) {
	t.Helper()
	secret, enc := wrapped(t, x.public, x.seed)
	g, nonce := boxer(t, secret, x.info)
	return enc, g.Seal(nil, nonce, x.text, x.more)
}

// isSealed asks that a box is sealed as just this.
func (x box) isSealed(t *testing.T, enc, sealed []byte) {
	t.Helper()
	a, b, e := hpke.Seal(x.public, x.seed, x.info, x.text, x.more)
	if e != api.OK || !bytes.Equal(a, enc) || !bytes.Equal(b, sealed) {
		t.Errorf("Seal to %x by %x: %x, %x, %v, not %x, %x", x.public, x.seed, a, b, e, enc, sealed)
	}
}

// isOpened asks that this is opened.
func (x box) isOpened(t *testing.T, enc, sealed []byte) {
	t.Helper()
	b, e := hpke.Open(x.private, enc, x.info, sealed, x.more)
	if e != api.OK || !bytes.Equal(b, x.text) {
		t.Errorf("Open of %x by %x: %x, %v, not %x", sealed, x.private, b, e, x.text)
	}
}

// isntOpened asks that this isn't opened, but is told as just this error.
func (x box) isntOpened(t *testing.T, what string, enc, sealed []byte, want api.Err) {
	t.Helper()
	if b, e := hpke.Open(x.private, enc, x.info, sealed, x.more); e != want || len(b) != 0 {
		t.Errorf("Open of %s: %x, %v, not %v", what, b, e, want)
	}
}

// isntOpenedByAnother asks that another private key doesn't open this.
func (x box) isntOpenedByAnother(t *testing.T, enc, sealed []byte) {
	t.Helper()
	private, _ := hpke.Pair(append([]byte("another"), x.seed...))
	y := x
	y.private = private
	y.isntOpened(t, "another one's box", enc, sealed, api.Seal)
}

// agrees asks that a box is sealed, and opened, as another program does.
func (x box) agrees(t *testing.T) {
	t.Helper()
	enc, sealed := x.theirs(t)
	x.isSealed(t, enc, sealed)
	x.isOpened(t, enc, sealed)
}
