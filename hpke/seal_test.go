package hpke_test

import (
	"bytes"
	"crypto/ecdh"
	other "crypto/hpke"
	"fmt"
	"testing"

	"ratline/api"
	"ratline/hpke"
)

// isntSealed asks that a box isn't sealed, but is told as just this error.
func (x box) isntSealed(t *testing.T, want api.Err) {
	t.Helper()
	if a, b, e := hpke.Seal(x.public, x.seed, x.info, x.text, x.more); e != want || len(a) != 0 || len(b) != 0 {
		t.Errorf("Seal to %x: %x, %x, %v, not %v", x.public, a, b, e, want)
	}
}

func TestP132Published(t *testing.T) {
	x := box{
		unhex(t, published[0].private), unhex(t, published[0].public), unhex(t, published[1].seed),
		[]byte("Ode on a Grecian Urn"), []byte("Beauty is truth, truth beauty"), []byte("Count-0"),
	}
	enc := unhex(t, "37fda3567bdbd628e88668c3c8d7e97d1d1253b6d4ea6d44c150f741f1bf4431")
	sealed := unhex(t, "f938558b5d72f1a23810b4be2ab4f84331acc02fc97babc53a52ae8218a355a96d8770ac83d07bea87e13c512a")
	x.isSealed(t, enc, sealed)
	x.isOpened(t, enc, sealed)
	x.agrees(t)
}

func TestP132EachLength(t *testing.T) {
	for n := range 150 {
		boxOf(t, n, n, 20, 7).agrees(t)
		boxOf(t, n, 20, n, 7).agrees(t)
		boxOf(t, n, 20, 7, n).agrees(t)
		boxOf(t, n, 2*n, 3*n, 150-n).agrees(t)
	}
}

func TestP132MuchOfEach(t *testing.T) {
	for _, n := range []int{1 << 14, 1 << 16, api.MaxBytes, api.MaxBytes + 1} {
		boxOf(t, n, n, 1, 1).agrees(t)
		boxOf(t, n, 1, 1, n).agrees(t)
	}
	boxOf(t, 1, 1, api.MaxBytes+1, 1).agrees(t)
}

// A seed for wrapping is of any bytes.
func TestP132Seeds(t *testing.T) {
	x := boxOf(t, 1, 10, 10, 10)
	for n := range 100 {
		x.seed = random(n, n)
		x.agrees(t)
	}
	x.seed = nil
	x.agrees(t)
}

func TestP132Points(t *testing.T) {
	for i, point := range points() {
		x := boxOf(t, i, i, i, i)
		x.public = point
		enc, sealed := x.theirs(t)
		x.isSealed(t, enc, sealed)
	}
}

// Each bit of what is handed in plays its part.
func TestP132EachBit(t *testing.T) {
	x := boxOf(t, 2, 9, 17, 5)
	seen := map[string]bool{}
	sealed := func(x box) {
		t.Helper()
		a, b := x.theirs(t)
		x.isSealed(t, a, b)
		seen[string(b)] = true
	}
	for bit := range 8 * size {
		y := x
		y.public = turned(x.public, bit)
		sealed(y)
		y = x
		y.seed = turned(x.seed, bit)
		sealed(y)
	}
	for bit := range 8 * len(x.info) {
		y := x
		y.info = turned(x.info, bit)
		sealed(y)
	}
	for bit := range 8 * len(x.text) {
		y := x
		y.text = turned(x.text, bit)
		sealed(y)
	}
	for bit := range 8 * len(x.more) {
		y := x
		y.more = turned(x.more, bit)
		sealed(y)
	}
	if want := 8 * (2*size + 9 + 17 + 5); len(seen) != want {
		t.Errorf("%d boxes, not %d", len(seen), want)
	}
}

// Nil is an info, a text and further bytes, without a byte.
func TestP132Nil(t *testing.T) {
	x := boxOf(t, 3, 0, 0, 0)
	enc, sealed := x.theirs(t)
	x.info, x.text, x.more = nil, nil, nil
	x.isSealed(t, enc, sealed)
	x.isOpened(t, enc, sealed)
	if len(sealed) != tagSize {
		t.Errorf("nothing, sealed, has %d bytes", len(sealed))
	}
	box{}.isntSealed(t, api.Form)
	box{}.isntOpened(t, "nothing", nil, nil, api.Arg)
}

func TestP132SealErrors(t *testing.T) {
	x := boxOf(t, 4, 10, 10, 10)
	for _, b := range wrong() {
		y := x
		y.public = b
		y.isntSealed(t, api.Form)
		box{public: b}.isntSealed(t, api.Form)
	}
	for _, b := range lost(t) {
		y := x
		y.public = b
		y.isntSealed(t, api.Point)
		box{public: b}.isntSealed(t, api.Point)
	}
}

// Another program opens what is sealed here.
func TestP132OpenedByAnotherProgram(t *testing.T) {
	for n := range 100 {
		x := boxOf(t, n, 3*n, 2*n, n)
		enc, sealed, e := hpke.Seal(x.public, x.seed, x.info, x.text, x.more)
		if e != api.OK {
			t.Fatalf("Seal: %v", e)
		}
		k, err := other.DHKEM(ecdh.X25519()).NewPrivateKey(x.private)
		if err != nil {
			t.Fatal(err)
		}
		r, err := other.NewRecipient(enc, k, other.HKDFSHA256(), other.AES128GCM(), x.info)
		if err != nil {
			t.Fatal(err)
		}
		text, err := r.Open(x.more, sealed)
		if err != nil || !bytes.Equal(text, x.text) {
			t.Errorf("the box %d: %x, %v, not %x", n, text, err, x.text)
		}
	}
}

// What is handed in stays as it is, and isn't kept; what is told is the caller's.
func TestP132NothingShared(t *testing.T) {
	for i := range 30 {
		room := box{random(i, 100), nil, random(i+1, 100), random(i+2, 100), random(i+3, 100), random(i+4, 100)}
		room.public = append(publicOf(t, room.private[:size]), random(i+5, 60)...)
		kept := room.clone()
		x := box{room.private[:size], room.public[:size], room.seed[:i], room.info[:i], room.text[:i], room.more[:i]}
		enc, sealed := x.theirs(t)
		text := bytes.Clone(x.text)
		for range 2 {
			// What was told before, changed, changes nothing of what is told now.
			first, ahead, _ := hpke.Seal(x.public, x.seed, x.info, x.text, x.more)
			second, behind, _ := hpke.Seal(x.public, x.seed, x.info, x.text, x.more)
			one, _ := hpke.Open(x.private, enc, x.info, sealed, x.more)
			another, _ := hpke.Open(x.private, enc, x.info, sealed, x.more)
			for _, b := range [][]byte{first, ahead, one} {
				clear(b[:cap(b)])
			}
			equal(t, "the second box", behind, sealed)
			equal(t, "the second text", another, text)
			clear(behind[:cap(behind)])
			equal(t, "the second enc", second, enc)
		}
		equal(t, "the private key, and what is behind it", room.private, kept.private)
		equal(t, "the public key, and what is behind it", room.public, kept.public)
		equal(t, "the seed, and what is behind it", room.seed, kept.seed)
		equal(t, "the info, and what is behind it", room.info, kept.info)
		equal(t, "the text, and what is behind it", room.text, kept.text)
		equal(t, "the further bytes, and what is behind them", room.more, kept.more)
	}
}

func TestP132NothingKept(t *testing.T) {
	x := boxOf(t, 5, 20, 20, 20)
	enc, sealed := x.theirs(t)
	text := bytes.Clone(x.text)
	a, b, _ := hpke.Seal(x.public, x.seed, x.info, x.text, x.more)
	opened, _ := hpke.Open(x.private, a, x.info, b, x.more)
	for _, c := range [][]byte{x.private, x.public, x.seed, x.info, x.text, x.more} {
		clear(c)
	}
	equal(t, "enc, behind a change of what was handed in", a, enc)
	equal(t, "the box, behind a change of what was handed in", b, sealed)
	clear(a)
	clear(b)
	equal(t, "the text, behind a change of its box", opened, text)
}

// All that is handed in may lie in the same memory.
func TestP132OneMemory(t *testing.T) {
	for i := range 30 {
		b := random(i, 100)
		x := box{public: b[i:][:size], seed: b[i/2:], info: b[i/3 : 40+i], text: b[:50+i], more: b}
		enc, sealed := x.clone().theirs(t)
		x.isSealed(t, enc, sealed)
		equal(t, "what was handed in", b, random(i, 100))
	}
	x := boxOf(t, 6, 0, 0, 0)
	x.seed, x.info, x.text, x.more = x.private, x.private, x.private, x.private
	x.agrees(t)
	x.seed, x.info, x.text, x.more = x.public, x.public, x.public, x.public
	x.agrees(t)
}

func BenchmarkSeal(b *testing.B) {
	_, public := hpke.Pair(nil)
	for _, n := range []int{0, 1 << 10} {
		text := random(n, n)
		b.Run(fmt.Sprint(n), func(b *testing.B) {
			for b.Loop() {
				hpke.Seal(public, nil, nil, text, nil)
			}
		})
	}
}
