package dh_test

import (
	"bytes"
	"math/big"
	"testing"

	"ratline/api"
	"ratline/dh"
)

func TestP72Shared(t *testing.T) {
	l := numbers()
	for i, key := range l {
		for j := i % 7; j < len(l); j += 7 {
			b, e := dh.Shared(key, l[j])
			want := asked(t, key, l[j])
			if bytes.Equal(want, make([]byte, size)) {
				fails(t, "Shared that comes to 0", b, e, api.Point)
				continue
			}
			is(t, "Shared", b, e, want)
		}
	}
}

func TestP72SharedPublished(t *testing.T) {
	for _, x := range published {
		b, e := dh.Shared(unhex(t, x.key), unhex(t, x.point))
		is(t, "Shared", b, e, unhex(t, x.want))
	}
}

func TestP72SharedLost(t *testing.T) {
	for _, point := range lostPoints(t) {
		for _, key := range numbers() {
			b, e := dh.Shared(key, point)
			fails(t, "Shared that comes to 0", b, e, api.Point)
		}
	}
}

// undone tells a point whose product with key is want, and whether there is one
// that can be found so: there is if want is a multiple of the base.
func undone(t *testing.T, key, want []byte) ([]byte, bool) {
	t.Helper()
	order, _ := new(big.Int).SetString("27742317777372353535851937790883648493", 10)
	order.Add(order, shifted(252, 0))
	inverse := new(big.Int).ModInverse(whole(clamped(key)), order)
	// u tells a point and its negative alike, so that one of them has a clamped key
	// that comes to the inverse.
	for _, n := range []*big.Int{inverse, new(big.Int).Sub(order, inverse)} {
		for range 8 {
			if back := lowFirst(n); bytes.Equal(back, clamped(back)) {
				point := asked(t, back, want)
				return point, bytes.Equal(asked(t, key, point), want)
			}
			n.Add(n, order)
		}
	}
	return nil, false
}

// A product of which all bytes but one are 0 isn't 0, whichever byte it is.
func TestP72SharedNearlyNought(t *testing.T) {
	for at := range size {
		found := 0
		for value := 1; value < 128 && found < 3; value++ {
			key, want := random(value), make([]byte, size)
			want[at] = byte(value)
			point, ok := undone(t, key, want)
			if !ok {
				continue
			}
			found++
			b, e := dh.Shared(key, point)
			is(t, "Shared that comes to one byte and noughts", b, e, want)
		}
		if found == 0 {
			t.Errorf("no product was found of which byte %d alone isn't 0", at)
		}
	}
}

// The key and the point are looked at ahead of the product.
func TestP72WrongLengths(t *testing.T) {
	right, nought := random(79), make([]byte, size)
	for _, wrong := range wrongs() {
		b, e := dh.Shared(wrong, right)
		fails(t, "Shared of a wrong key", b, e, api.Arg)
		b, e = dh.Shared(wrong, nought)
		fails(t, "Shared of a wrong key and 0", b, e, api.Arg)
		b, e = dh.Shared(wrong, wrong)
		fails(t, "Shared of a wrong key and a wrong point", b, e, api.Arg)
		b, e = dh.Shared(right, wrong)
		fails(t, "Shared of a wrong point", b, e, api.Form)
	}
}

// One's key with the other's point is the other's key with one's.
func TestP73Alike(t *testing.T) {
	l := numbers()
	for i, one := range l {
		other := l[(11*i+5)%len(l)]
		p, e := dh.Base(one)
		q, f := dh.Base(other)
		if e != api.OK || f != api.OK {
			t.Fatalf("Base: %v, %v", e, f)
		}
		want, e := dh.Shared(other, p)
		b, f := dh.Shared(one, q)
		is(t, "Shared", b, f, want)
		is(t, "Shared the other way round", want, e, b)
	}
}

// So it is of three, and with any point for the base.
func TestP73AlikeOfAnyPoint(t *testing.T) {
	l := numbers()
	for i, point := range l {
		one, other := l[(3*i+1)%len(l)], l[(5*i+2)%len(l)]
		p, e := dh.Mul(one, point)
		q, f := dh.Mul(other, point)
		if e != api.OK || f != api.OK {
			t.Fatalf("Mul: %v, %v", e, f)
		}
		want, _ := dh.Mul(other, p)
		b, e := dh.Mul(one, q)
		is(t, "Mul", b, e, want)
		b, e = dh.Shared(one, q)
		if bytes.Equal(want, make([]byte, size)) {
			fails(t, "Shared that comes to 0", b, e, api.Point)
			continue
		}
		is(t, "Shared", b, e, want)
	}
}
