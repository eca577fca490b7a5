package field_test

import (
	"testing"

	"ratline/field"
)

// ask asks that two ways come to one number.
func ask(t *testing.T, what string, one, other field.E) {
	t.Helper()
	if !one.Same(other) {
		t.Errorf("%s: %x, not %x", what, one.Bytes(), other.Bytes())
	}
}

// numbers are those for which the laws are asked.
func numbers() []field.E {
	var l []field.E
	for _, n := range append(edges(), some(12)...) {
		l = append(l, of(n))
	}
	return l
}

func TestP63OfOne(t *testing.T) {
	var zero field.E
	one := field.Num(1)
	for _, a := range numbers() {
		ask(t, "0 added", a.Add(zero), a)
		ask(t, "1 times", a.Mul(one), a)
		ask(t, "0 times", a.Mul(zero), zero)
		ask(t, "its negative added", a.Add(a.Neg()), zero)
		ask(t, "its negative's negative", a.Neg().Neg(), a)
		ask(t, "-1 times", a.Mul(one.Neg()), a.Neg())
		ask(t, "Square", a.Square(), a.Mul(a))
		ask(t, "the square of its negative", a.Neg().Square(), a.Square())
		ask(t, "Inv of Inv", a.Inv().Inv(), a)
		ask(t, "Of its bytes", field.Of(a.Bytes()), a)
		if !a.Zero() {
			ask(t, "times what makes 1", a.Mul(a.Inv()), one)
			ask(t, "a negative's Inv", a.Neg().Inv(), a.Inv().Neg())
		}
		if !a.Zero() && a.Odd() == a.Neg().Odd() {
			t.Errorf("%x is as odd as its negative", a.Bytes())
		}
	}
}

func TestP63OfTwo(t *testing.T) {
	for _, a := range numbers() {
		for _, b := range numbers() {
			ask(t, "added the other way round", a.Add(b), b.Add(a))
			ask(t, "times the other way round", a.Mul(b), b.Mul(a))
			ask(t, "less, and added", a.Sub(b).Add(b), a)
			ask(t, "less, as its negative added", a.Sub(b), a.Add(b.Neg()))
			ask(t, "less the other way round", a.Sub(b), b.Sub(a).Neg())
			ask(t, "a negative's product", a.Neg().Mul(b), a.Mul(b).Neg())
			ask(t, "two squares", a.Add(b).Mul(a.Sub(b)), a.Square().Sub(b.Square()))
			if a.Mul(b).Zero() != (a.Zero() || b.Zero()) {
				t.Errorf("%x times %x: Zero %v", a.Bytes(), b.Bytes(), a.Mul(b).Zero())
			}
		}
	}
}

func TestP63OfThree(t *testing.T) {
	l := numbers()
	for i, a := range l {
		for j, b := range l {
			c := l[(7*i+3*j)%len(l)]
			ask(t, "sums of sums", a.Add(b).Add(c), a.Add(b.Add(c)))
			ask(t, "products of products", a.Mul(b).Mul(c), a.Mul(b.Mul(c)))
			ask(t, "a product of a sum", a.Mul(b.Add(c)), a.Mul(b).Add(a.Mul(c)))
			ask(t, "a product of a difference", a.Mul(b.Sub(c)), a.Mul(b).Sub(a.Mul(c)))
		}
	}
}

func TestP63Inverses(t *testing.T) {
	l := numbers()
	for i, a := range l {
		b := l[(5*i+1)%len(l)]
		ask(t, "Inv of a product", a.Mul(b).Inv(), a.Inv().Mul(b.Inv()))
		ask(t, "powers added", a.Pow([]byte{7}).Mul(a.Pow([]byte{0, 1})), a.Pow([]byte{7, 1}))
		ask(t, "a power's power", a.Pow([]byte{11}).Pow([]byte{30}), a.Pow([]byte{74, 1}))
		ask(t, "a product's power", a.Mul(b).Pow([]byte{9, 3}), a.Pow([]byte{9, 3}).Mul(b.Pow([]byte{9, 3})))
	}
}
