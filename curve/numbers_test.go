package curve

import (
	"testing"

	"ratline/field"
	"ratline/scalar"
)

func TestP91Numbers(t *testing.T) {
	one := field.Num(1)
	d := field.Num(121665).Neg().Mul(field.Num(121666).Inv())
	y := field.Num(4).Mul(field.Num(5).Inv())
	yy := y.Square()
	x, ok := yy.Sub(one).Mul(d.Mul(yy).Add(one).Inv()).Root()
	for _, n := range []struct {
		what      string
		got, want field.E
	}{
		{"d", factor(), d},
		{"the base's x", baseX(), x},
		{"the base's y", baseY(), y},
	} {
		if !n.got.Same(n.want) {
			t.Errorf("%s: %x, not %x", n.what, n.got.Bytes(), n.want.Bytes())
		}
	}
	if !ok || x.Odd() {
		t.Errorf("the base's x: %v, or odd", ok)
	}
}

// What isn't of the curve is told to be so, whichever bit of x or y is another
// one.
func TestP92NotRight(t *testing.T) {
	p := Base().Mul(scalar.Of([]byte{77}))
	turned := func(e field.E, bit int) field.E {
		b := e.Bytes()
		b[bit/8] ^= 1 << (bit % 8)
		return field.Of(b)
	}
	for bit := range 255 {
		for _, q := range []P{at(turned(p.x, bit), p.y()), at(p.x, turned(p.y(), bit))} {
			if q.Right() {
				t.Errorf("right with bit %d turned: %x", bit, q)
			}
			if q.Same(p) || p.Same(q) {
				t.Errorf("the same with bit %d turned", bit)
			}
		}
	}
	for _, q := range []P{
		at(field.Num(1), field.Num(1)),
		at(field.Num(0), field.Num(0)),
		at(field.Num(0), field.Num(2)),
		at(field.Num(1), field.Num(0)),
		at(p.y(), p.x),
	} {
		if q.Right() {
			t.Errorf("right: %x", q)
		}
	}
	// The curve is the same about both axes.
	for _, q := range []P{p, p.Neg(), at(p.x, p.y().Neg()), at(p.x.Neg(), p.y().Neg()), {}} {
		if !q.Right() {
			t.Errorf("not right: %x", q)
		}
	}
}
