package scalar_test

import (
	"testing"

	"ratline/scalar"
)

// ask asks that two ways come to one scalar.
func ask(t *testing.T, what string, one, other scalar.S) {
	t.Helper()
	if !one.Same(other) {
		t.Fatalf("%s: %x, not %x", what, one.Bytes(), other.Bytes())
	}
}

// scalars are those for which the laws are asked.
func scalars() []scalar.S {
	var l []scalar.S
	for _, n := range append(edges(), some(15)...) {
		l = append(l, of(n))
	}
	return l
}

func TestP83OfOne(t *testing.T) {
	var zero scalar.S
	one := scalar.Of([]byte{1})
	for _, a := range scalars() {
		ask(t, "0 added", a.Add(zero), a)
		ask(t, "added to 0", zero.Add(a), a)
		ask(t, "1 times", a.Mul(one), a)
		ask(t, "times 1", one.Mul(a), a)
		ask(t, "0 times", a.Mul(zero), zero)
		ask(t, "times 0", zero.Mul(a), zero)
		ask(t, "what takes it back added", a.Add(a.Neg()), zero)
		ask(t, "Neg of Neg", a.Neg().Neg(), a)
		ask(t, "0 less 1 times", a.Mul(one.Neg()), a.Neg())
		ask(t, "twice", a.Mul(scalar.Of([]byte{2})), a.Add(a))
		ask(t, "the square of Neg", a.Neg().Mul(a.Neg()), a.Mul(a))
		ask(t, "Of its bytes", scalar.Of(a.Bytes()), a)
		if x, ok := scalar.Exact(a.Bytes()); !ok || !x.Same(a) {
			t.Errorf("Exact of %x: %x, %v", a.Bytes(), x.Bytes(), ok)
		}
	}
	ask(t, "Neg of 0", zero.Neg(), zero)
}

func TestP83OfTwo(t *testing.T) {
	for _, a := range scalars() {
		for _, b := range scalars() {
			ask(t, "added the other way round", a.Add(b), b.Add(a))
			ask(t, "times the other way round", a.Mul(b), b.Mul(a))
			ask(t, "added and taken back", a.Add(b).Add(b.Neg()), a)
			ask(t, "Neg of a sum", a.Add(b).Neg(), a.Neg().Add(b.Neg()))
			ask(t, "Neg times", a.Neg().Mul(b), a.Mul(b).Neg())
			ask(t, "two squares", a.Add(b).Mul(a.Add(b.Neg())), a.Mul(a).Add(b.Mul(b).Neg()))
		}
	}
}

func TestP83OfThree(t *testing.T) {
	l := scalars()
	for i, a := range l {
		for j, b := range l {
			c := l[(7*i+3*j)%len(l)]
			ask(t, "sums of sums", a.Add(b).Add(c), a.Add(b.Add(c)))
			ask(t, "products of products", a.Mul(b).Mul(c), a.Mul(b.Mul(c)))
			ask(t, "a product of a sum", a.Mul(b.Add(c)), a.Mul(b).Add(a.Mul(c)))
			ask(t, "a sum's product", a.Add(b).Mul(c), a.Mul(c).Add(b.Mul(c)))
		}
	}
}

// L is prime: no product is 0 but of 0, and to the power L each scalar is itself.
func TestP83Prime(t *testing.T) {
	l := order()
	for _, a := range scalars() {
		power := scalar.Of([]byte{1})
		for i := l.BitLen() - 1; i >= 0; i-- {
			power = power.Mul(power)
			if l.Bit(i) == 1 {
				power = power.Mul(a)
			}
		}
		ask(t, "to the power L", power, a)
		for _, b := range scalars() {
			zero := scalar.S{}
			if a.Mul(b).Same(zero) != (a.Same(zero) || b.Same(zero)) {
				t.Errorf("%x times %x is 0", a.Bytes(), b.Bytes())
			}
		}
	}
}
