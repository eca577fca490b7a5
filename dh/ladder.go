package dh

import "ratline/field"

const (
	// keyBits are the bits of a clamped key that are gone through: the one above
	// them is 0.
	keyBits = 255

	// factor is that of E in the step's sum.
	factor = 121665
)

// ratio is a u, as x over z, so that nothing is inverted ahead of the end.
type ratio struct{ x, z field.E }

// product tells the u of a clamped key and u.
func product(key []byte, u field.E) field.E {
	p := ratio{x: field.Num(1)}
	q := ratio{x: u, z: field.Num(1)}
	at := keyBits
lower:
	if at == 0 {
		return p.x.Mul(p.z.Inv())
	}
	at--
	bit := key[at/8] >> (at % 8) & 1
	p, q = swapped(bit, p, q)
	p, q = step(p, q, u)
	p, q = swapped(bit, p, q)
	goto lower
}

// swapped tells q and p of a bit that is 1, p and q of 0.
func swapped(bit byte, p, q ratio) (ratio, ratio) {
	// Nothing is asked of the bit, since it is a secret: how long it takes doesn't
	// tell it.
	both := [2]ratio{p, q}
	return both[bit], both[1-bit]
}

// step tells twice p, and the sum of p and q, whose difference is u.
func step(p, q ratio, u field.E) (ratio, ratio) {
	a, b := p.x.Add(p.z), p.x.Sub(p.z)
	c, d := q.x.Add(q.z), q.x.Sub(q.z)
	da, cb := d.Mul(a), c.Mul(b)
	aa, bb := a.Square(), b.Square()
	e := aa.Sub(bb)
	twice := ratio{
		x: aa.Mul(bb),
		z: e.Mul(aa.Add(field.Num(factor).Mul(e))),
	}
	sum := ratio{
		x: da.Add(cb).Square(),
		z: u.Mul(da.Sub(cb).Square()),
	}
	return twice, sum
}
