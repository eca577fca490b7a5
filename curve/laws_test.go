package curve_test

import (
	"math/big"
	"testing"

	"ratline/curve"
	"ratline/scalar"
)

// ask asks that two ways come to one point.
func ask(t *testing.T, what string, one, other curve.P) {
	t.Helper()
	if !one.Same(other) {
		t.Fatalf("%s: %x, not %x", what, one.Bytes(), other.Bytes())
	}
	if !one.Right() {
		t.Fatalf("%s: %x isn't right", what, one.Bytes())
	}
}

// those are the points for which the laws are asked.
func those(t *testing.T) []curve.P {
	t.Helper()
	var l []curve.P
	for _, a := range append(small(), drawn(12)...) {
		l = append(l, of(t, a))
	}
	for _, s := range scalars()[:16] {
		l = append(l, curve.Base().Mul(s))
	}
	return l
}

func TestP93SumsGoOn(t *testing.T) {
	l := those(t)
	for i, p := range l {
		ask(t, "and nothing", p.Add(curve.Nothing()), p)
		ask(t, "nothing and", curve.Nothing().Add(p), p)
		for j, q := range l {
			r := l[(5*i+3*j)%len(l)]
			ask(t, "the other way round", p.Add(q), q.Add(p))
			ask(t, "sums of sums", p.Add(q).Add(r), p.Add(q.Add(r)))
		}
	}
}

func TestP93SumsAreTakenBack(t *testing.T) {
	l := those(t)
	for _, p := range l {
		ask(t, "a point and its Neg", p.Add(p.Neg()), curve.Nothing())
		for _, q := range l {
			ask(t, "added and taken back", p.Add(q).Add(q.Neg()), p)
			ask(t, "Neg of a sum", p.Add(q).Neg(), p.Neg().Add(q.Neg()))
			if p.Add(q).Same(p) != q.Same(curve.Nothing()) {
				t.Fatalf("%x and %x is the first one", p.Bytes(), q.Bytes())
			}
		}
	}
}

// Of what is a multiple of the base, all scalars may be added.
func TestP93ProductOfSum(t *testing.T) {
	l := scalars()
	p := curve.Base().Mul(l[len(l)-1])
	for i, a := range l {
		b := l[(11*i+5)%len(l)]
		for _, q := range []curve.P{curve.Base(), p} {
			ask(t, "a product of a sum of scalars", q.Mul(a.Add(b)), q.Mul(a).Add(q.Mul(b)))
			ask(t, "a product of a product", q.Mul(a.Mul(b)), q.Mul(a).Mul(b))
			ask(t, "a product of Neg", q.Mul(a.Neg()), q.Mul(a).Neg())
			ask(t, "a product taken back", q.Mul(a).Add(q.Mul(a.Neg())), curve.Nothing())
		}
		ask(t, "a sum's product", curve.Base().Add(p).Mul(a), curve.Base().Mul(a).Add(p.Mul(a)))
	}
}

// Of any point, those may be added whose sum is below L.
func TestP93ProductOfSumOfAny(t *testing.T) {
	half := new(big.Int).Rsh(order(), 1)
	for i, p := range those(t) {
		l := scalars()
		for j := range 6 {
			a := many(new(big.Int).Mod(number(l[(3*i+7*j)%len(l)]), half))
			b := many(new(big.Int).Mod(number(l[(5*i+2*j)%len(l)]), half))
			ask(t, "a product of a sum of scalars", p.Mul(a.Add(b)), p.Mul(a).Add(p.Mul(b)))
		}
	}
}

func TestP93ProductOfAPointsSum(t *testing.T) {
	l, factors := those(t), scalars()
	for i, p := range l {
		q, s := l[(7*i+4)%len(l)], factors[(5*i+1)%len(factors)]
		ask(t, "a sum's product", p.Add(q).Mul(s), p.Mul(s).Add(q.Mul(s)))
		ask(t, "a product of Neg", p.Neg().Mul(s), p.Mul(s).Neg())
	}
}

func TestP93BaseOrderTimes(t *testing.T) {
	last := scalar.Of([]byte{1}).Neg()
	ask(t, "the base L less 1 times", curve.Base().Mul(last), curve.Base().Neg())
	ask(t, "the base L times", curve.Base().Mul(last).Add(curve.Base()), curve.Nothing())
	for _, s := range scalars() {
		p := curve.Base().Mul(s)
		ask(t, "a multiple L times", p.Mul(last).Add(p), curve.Nothing())
		if p.Same(curve.Nothing()) != s.Same(scalar.S{}) {
			t.Errorf("the base %x times is nothing", s.Bytes())
		}
	}
	// Not so of others: of one of which 8 times is nothing, L times is 5 times.
	p := of(t, small()[7])
	ask(t, "a small one L times", p.Mul(last).Add(p), p.Mul(many(big.NewInt(5))))
}
