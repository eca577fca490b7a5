package hpke_test

import (
	"bytes"
	"testing"

	"ratline/api"
	"ratline/hpke"
)

// wraps asks that Wrap tells just what another program does.
func wraps(t *testing.T, public, seed []byte) {
	t.Helper()
	secret, enc := wrapped(t, public, seed)
	a, b, e := hpke.Wrap(public, seed)
	if e != api.OK || !bytes.Equal(a, secret) || !bytes.Equal(b, enc) {
		t.Errorf("Wrap for %x by %x: %x, %x, %v, not %x, %x", public, seed, a, b, e, secret, enc)
	}
}

// unwraps asks that Unwrap tells just what another program does.
func unwraps(t *testing.T, private, enc []byte) {
	t.Helper()
	secret := unwrapped(t, private, enc)
	b, e := hpke.Unwrap(private, enc)
	if e != api.OK || !bytes.Equal(b, secret) {
		t.Errorf("Unwrap of %x by %x: %x, %v, not %x", enc, private, b, e, secret)
	}
}

// doesntWrap asks that Wrap tells just this error.
func doesntWrap(t *testing.T, public, seed []byte, want api.Err) {
	t.Helper()
	if a, b, e := hpke.Wrap(public, seed); e != want || len(a) != 0 || len(b) != 0 {
		t.Errorf("Wrap for %x: %x, %x, %v, not %v", public, a, b, e, want)
	}
}

// doesntUnwrap asks that Unwrap tells just this error.
func doesntUnwrap(t *testing.T, private, enc []byte, want api.Err) {
	t.Helper()
	if b, e := hpke.Unwrap(private, enc); e != want || len(b) != 0 {
		t.Errorf("Unwrap of %x by %x: %x, %v, not %v", enc, private, b, e, want)
	}
}

func TestP131WrapPublished(t *testing.T) {
	for _, x := range []struct{ public, seed, secret, enc string }{
		{
			"3948cfe0ad1ddb695d780e59077195da6c56506b027329794ab02bca80815c4d",
			"7268600d403fce431561aef583ee1613527cff655c1343f29812e66706df3234",
			"fe0e18c9f024ce43799ae393c7e8fe8fce9d218875e8227b0187c04e7d2ea1fc",
			"37fda3567bdbd628e88668c3c8d7e97d1d1253b6d4ea6d44c150f741f1bf4431",
		},
		{
			"4310ee97d88cc1f088a5576c77ab0cf5c3ac797f3d95139c6c84b5429c59662a",
			"909a9b35d3dc4713a5e72a4da274b55d3d3821a37e5d099e74a647db583a904b",
			"0bbe78490412b4bbea4812666f7916932b828bba79942424abb65244930d69a7",
			"1afa08d3dec047a643885163f1180476fa7ddb54c6a8029ea33f95796bf2ac4a",
		},
	} {
		secret, enc, e := hpke.Wrap(unhex(t, x.public), unhex(t, x.seed))
		if e != api.OK {
			t.Errorf("Wrap: %v", e)
		}
		equal(t, "the shared secret", secret, unhex(t, x.secret))
		equal(t, "enc", enc, unhex(t, x.enc))
		wraps(t, unhex(t, x.public), unhex(t, x.seed))
	}
	for _, x := range published {
		wraps(t, unhex(t, x.public), unhex(t, x.seed))
		unwraps(t, unhex(t, x.private), unhex(t, x.public))
	}
}

// A public key, and an enc, plays its part as it is handed in, in whatever form.
func TestP131Points(t *testing.T) {
	for i, point := range points() {
		wraps(t, point, random(i, size))
		unwraps(t, random(i, size), point)
	}
}

// So does a private key, clamped or not.
func TestP131Keys(t *testing.T) {
	for i, key := range keys() {
		for j := range 5 {
			unwraps(t, key, points()[(i+7*j)%len(points())])
		}
	}
}

func TestP131WrapEachLengthOfASeed(t *testing.T) {
	_, public := pairOf(t, random(1, size))
	for n := range 200 {
		wraps(t, public, random(n, n))
	}
	wraps(t, public, nil)
	wraps(t, public, random(1, 1<<20+1))
}

// Each bit plays its part, but for those of a private key that are clamped.
func TestP131EachBit(t *testing.T) {
	private, public := pairOf(t, random(2, size))
	seed := random(3, size)
	secret, enc := wrapped(t, public, seed)
	unwraps(t, private, enc)
	seen := map[string]bool{string(secret): true}
	again := func(b []byte, _ []byte, e api.Err) {
		t.Helper()
		if seen[string(b)] || e != api.OK {
			t.Errorf("with a bit turned: %x, %v", b, e)
		}
		seen[string(b)] = true
	}
	for bit := range 8 * size {
		wraps(t, turned(public, bit), seed)
		again(hpke.Wrap(turned(public, bit), seed))
		wraps(t, public, turned(seed, bit))
		again(hpke.Wrap(public, turned(seed, bit)))
		unwraps(t, private, turned(enc, bit))
		b, e := hpke.Unwrap(private, turned(enc, bit))
		again(b, nil, e)
		unwraps(t, turned(private, bit), enc)
		b, e = hpke.Unwrap(turned(private, bit), enc)
		if bit < 3 || bit >= 8*size-2 {
			equal(t, "a bit that is clamped", b, secret)
			continue
		}
		again(b, nil, e)
	}
}

func TestP131OtherLengths(t *testing.T) {
	private, public := pairOf(t, random(4, size))
	for _, b := range wrong() {
		doesntWrap(t, b, random(5, size), api.Form)
		doesntWrap(t, b, nil, api.Form)
		doesntUnwrap(t, private, b, api.Form)
		doesntUnwrap(t, b, public, api.Arg)
		doesntUnwrap(t, b, b, api.Arg)
		doesntUnwrap(t, b, nil, api.Arg)
		for _, point := range lost(t)[:2] {
			doesntUnwrap(t, b, point, api.Arg)
		}
	}
}

// A key with 0 behind it isn't the key, nor is one without a 0 at its end.
func TestP131CutAndPadded(t *testing.T) {
	point := append(random(6, size-1), 0)
	for _, b := range [][]byte{point[:size-1], append(bytes.Clone(point), 0)} {
		doesntWrap(t, b, random(7, size), api.Form)
		doesntUnwrap(t, point, b, api.Form)
		doesntUnwrap(t, b, point, api.Arg)
	}
	wraps(t, point, random(7, size))
	unwraps(t, point, point)
}

func TestP131Lost(t *testing.T) {
	for _, point := range lost(t) {
		for _, key := range keys() {
			doesntWrap(t, point, key, api.Point)
			doesntUnwrap(t, key, point, api.Point)
		}
		doesntWrap(t, point, nil, api.Point)
	}
}

// What is handed in stays as it is, and isn't kept; what is told is the caller's.
func TestP131NothingShared(t *testing.T) {
	private, public := pairOf(t, random(8, size))
	room, key, seed := append(public, 1, 2, 3), append(private, 4, 5), random(9, 100)
	keptRoom, keptKey := bytes.Clone(room), bytes.Clone(key)
	secret, enc := wrapped(t, room[:size], seed[:50])
	first, ahead, _ := hpke.Wrap(room[:size], seed[:50])
	second, behind, _ := hpke.Wrap(room[:size], seed[:50])
	one, _ := hpke.Unwrap(key[:size], enc)
	another, _ := hpke.Unwrap(key[:size], enc)
	for _, b := range [][]byte{first, ahead, one} {
		clear(b[:cap(b)])
	}
	equal(t, "the second secret", second, secret)
	equal(t, "the second enc", behind, enc)
	equal(t, "the second secret that was unwrapped", another, secret)
	clear(second[:cap(second)])
	equal(t, "the second enc, behind a change of its secret", behind, enc)
	equal(t, "the public key, and what is behind it", room, keptRoom)
	equal(t, "the private key, and what is behind it", key, keptKey)
	equal(t, "the seed, and what is behind it", seed, random(9, 100))
	clear(room)
	clear(seed)
	equal(t, "enc, behind a change of what was handed in", behind, enc)
}

// All that is handed in may lie in the same memory.
func TestP131OneMemory(t *testing.T) {
	for i := range 30 {
		b := random(i, 100)
		wraps(t, b[i:][:size], b[i/2:][:size+i%9])
		unwraps(t, b[i:][:size], b[i/2:][:size])
		equal(t, "what was handed in", b, random(i, 100))
	}
}

func BenchmarkWrap(b *testing.B) {
	_, public := hpke.Pair(nil)
	for b.Loop() {
		hpke.Wrap(public, nil)
	}
}
