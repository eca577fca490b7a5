package sign_test

import (
	"bytes"
	"crypto/ed25519"
	"crypto/sha512"
	"math/big"
	"slices"
	"testing"

	"ratline/curve"
	"ratline/scalar"
)

// small are the multiples, from 0 to 7 times, of a point of which 8 times is
// nothing, and fewer times isn't.
func small(t *testing.T) []curve.P {
	t.Helper()
	p, ok := curve.Of(unhex(t, "c7176a703d4dd84fba3c0b760d10670f2a2053fa2c39ccc64ec7fd7792ac037a"))
	if !ok {
		t.Fatal("there is no such point")
	}
	var l []curve.P
	sum := curve.Nothing()
	for range 8 {
		l = append(l, sum)
		sum = sum.Add(p)
	}
	if !sum.Same(curve.Nothing()) || l[4].Same(curve.Nothing()) {
		t.Fatal("8 times isn't nothing, or 4 times is")
	}
	return l
}

// factor tells the digest of a signature's point, a key and a text, as a scalar.
func factor(point, key, text []byte) scalar.S {
	d := sha512.Sum512(slices.Concat(point, key, text))
	n := number(d[:])
	return scalar.Of(lowFirst(n.Mod(n, order())))
}

// low tells what is left of s, divided by 8.
func low(s scalar.S) int {
	return s.Bit(0) + 2*s.Bit(1) + 4*s.Bit(2)
}

// made tells a signature of the point r times the base and extra, that would
// hold if extra and the key's small part made nothing.
func made(r scalar.S, extra curve.P, key, text []byte, secret scalar.S) ([]byte, scalar.S) {
	point := curve.Base().Mul(r).Add(extra).Bytes()
	k := factor(point, key, text)
	return append(point, r.Add(k.Mul(secret)).Bytes()...), k
}

// agrees asks that Holds tells what another program does, of a key that is in
// its one form.
func agrees(t *testing.T, key, text, signature []byte, want bool) {
	t.Helper()
	if got := ed25519.Verify(key, text, signature); got != want {
		t.Fatalf("another program tells %v, not %v", got, want)
	}
	holds(t, "a key or a point with a small part", key, text, signature, want)
}

// It is asked that the points are the same, not that 8 times they are; and how
// often the key is taken is a scalar, so that a digest is taken modulo L first.
func TestP101SmallParts(t *testing.T) {
	l := small(t)
	counts := [2]int{}
	for i, part := range l {
		for j, extra := range l {
			for round := range 9 {
				s, r := scalar.Of(random(8*i+j, whole)), scalar.Of(random(100*round+j, whole))
				key := curve.Base().Mul(s).Add(part).Bytes()
				text := random(round, i+j)
				signature, k := made(r, extra, key, text, s)
				fits := (j+low(k)*i)%8 == 0
				agrees(t, key, text, signature, fits)
				if fits {
					counts[1]++
				} else {
					counts[0]++
				}
			}
		}
	}
	if counts[0] < 300 || counts[1] < 50 {
		t.Errorf("%d didn't fit, %d did", counts[0], counts[1])
	}
}

// What is a point's holds as any other, though it may be nothing: of a key that
// is nothing all scalars times the base hold.
func TestP101KeyThatIsNothing(t *testing.T) {
	key := curve.Nothing().Bytes()
	for i := range 20 {
		s, text := scalar.Of(random(i, i)), random(i, 2*i)
		agrees(t, key, text, append(curve.Base().Mul(s).Bytes(), s.Bytes()...), true)
		agrees(t, key, text, append(curve.Base().Mul(s.Neg()).Bytes(), s.Bytes()...), s.Same(scalar.S{}))
	}
	last := scalar.Of([]byte{1}).Neg()
	agrees(t, key, nil, append(curve.Base().Neg().Bytes(), last.Bytes()...), true)
	agrees(t, key, nil, append(curve.Nothing().Bytes(), make([]byte, size)...), true)
	holds(t, "L for 0", key, nil, append(curve.Nothing().Bytes(), lowFirst(order())...), false)
}

func TestP101PointThatIsNothing(t *testing.T) {
	for i := range 10 {
		s, text := scalar.Of(random(i, whole)), random(i, i)
		key := curve.Base().Mul(s).Bytes()
		signature, _ := made(scalar.S{}, curve.Nothing(), key, text, s)
		equal(t, "its point", signature[:size], curve.Nothing().Bytes())
		agrees(t, key, text, signature, true)
	}
}

// others are bytes that aren't those of nothing, nor of (0, -1), though they would
// be if y were taken modulo the prime, or 0 had a sign.
func others() (ofNothing, ofLast [][]byte) {
	prime := new(big.Int).Sub(new(big.Int).Lsh(big.NewInt(1), 255), big.NewInt(19))
	one := big.NewInt(1)
	highest := new(big.Int).Lsh(one, 255)
	above := new(big.Int).Add(prime, one)
	last := new(big.Int).Sub(prime, one)
	ofNothing = [][]byte{lowFirst(above), lowFirst(new(big.Int).Add(above, highest)), lowFirst(new(big.Int).Add(one, highest))}
	ofLast = [][]byte{lowFirst(new(big.Int).Add(last, highest))}
	return ofNothing, ofLast
}

func TestP101KeyInAnotherForm(t *testing.T) {
	ofNothing, ofLast := others()
	for i := range 12 {
		s, text := scalar.Of(random(i, whole)), random(i, i)
		signature := append(curve.Base().Mul(s).Bytes(), s.Bytes()...)
		for _, key := range append(ofNothing, ofLast...) {
			holds(t, "a key in another form", key, text, signature, false)
		}
		last := curve.P.Bytes(small(t)[4])
		agrees(t, last, text, signature, low(factor(signature[:size], last, text))%2 == 0)
	}
}

func TestP101PointInAnotherForm(t *testing.T) {
	ofNothing, ofLast := others()
	s := scalar.Of(random(1, whole))
	key := curve.Base().Mul(s).Bytes()
	for i := range 4 {
		text := random(i, i)
		for _, point := range append(ofNothing, ofLast...) {
			k := factor(point, key, text)
			holds(t, "a point in another form", key, text, append(bytes.Clone(point), k.Mul(s).Bytes()...), false)
		}
	}
}

// Bytes that are no point's aren't taken for nothing.
func TestP101NoPoint(t *testing.T) {
	none := append([]byte{2}, make([]byte, size-1)...)
	if _, ok := curve.Of(none); ok {
		t.Fatal("there is such a point")
	}
	for i := range 4 {
		s, text := scalar.Of(random(i, whole)), random(i, i)
		holds(t, "no point's for the key", none, text, append(curve.Base().Mul(s).Bytes(), s.Bytes()...), false)
		key := curve.Base().Mul(s).Bytes()
		k := factor(none, key, text)
		holds(t, "no point's for the point", key, text, append(bytes.Clone(none), k.Mul(s).Bytes()...), false)
	}
	holds(t, "no point's for both", none, nil, append(bytes.Clone(none), make([]byte, size)...), false)
}
