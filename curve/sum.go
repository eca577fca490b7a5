package curve

import (
	"ratline/field"
	"ratline/scalar"
)

// scalarBits are those that a scalar has: none is 2^253 or more.
const scalarBits = 253

// ratios is a point: its x, its y and, in t, their product, all of them over z,
// so that nothing is inverted ahead of the end.
type ratios struct{ x, y, z, t field.E }

// addend is what sums take of a point: y less x, y and x, and 2 d x y.
type addend struct{ less, more, part field.E }

// ratios tells p over 1.
func (p P) ratios() ratios {
	y := p.y()
	return ratios{x: p.x, y: y, z: field.Num(1), t: p.x.Mul(y)}
}

// addend tells what sums take of p.
func (p P) addend() addend {
	y, d := p.y(), factor()
	return addend{less: y.Sub(p.x), more: y.Add(p.x), part: d.Add(d).Mul(p.x).Mul(y)}
}

// point tells the point that r is.
func (r ratios) point() P {
	inverse := r.z.Inv()
	return at(r.x.Mul(inverse), r.y.Mul(inverse))
}

// product tells the sum of p as often as s.
func product(p P, s scalar.S) ratios {
	// A scalar may be a secret: nothing is asked of a bit, and something is added
	// whether it is set or not, so that how long it takes doesn't tell it.
	either := [2]addend{Nothing().addend(), p.addend()}
	sum := Nothing().ratios()
	bit := scalarBits
lower:
	if bit == 0 {
		return sum
	}
	bit--
	sum = sum.twice().and(either[s.Bit(bit)])
	goto lower
}

// and tells the sum of r and q.
func (r ratios) and(q addend) ratios {
	// Two products do for the four of a sum's x and y, which come twice as great
	// so: what they are over is then twice as great, too.
	low, high := r.y.Sub(r.x).Mul(q.less), r.y.Add(r.x).Mul(q.more)
	z, part := r.z.Add(r.z), r.t.Mul(q.part)
	return crossed(high.Sub(low), z.Add(part), high.Add(low), z.Sub(part))
}

// twice tells the sum of r and itself.
func (r ratios) twice() ratios {
	// Of a point of the curve 1 + d x^2 y^2 is -x^2 + y^2, so that neither d nor t
	// is needed.
	xx, yy, zz := r.x.Square(), r.y.Square(), r.z.Square()
	sum, less := yy.Add(xx), yy.Sub(xx)
	return crossed(r.x.Add(r.y).Square().Sub(sum), less, sum, zz.Add(zz).Sub(less))
}

// crossed tells the point of x over underX and y over underY.
func crossed(x, underX, y, underY field.E) ratios {
	return ratios{
		x: x.Mul(underY),
		y: y.Mul(underX),
		z: underX.Mul(underY),
		t: x.Mul(y),
	}
}
