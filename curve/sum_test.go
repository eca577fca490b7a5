package curve_test

import (
	"bytes"
	"crypto/ed25519"
	"crypto/sha512"
	"math/big"
	"math/rand"
	"slices"
	"testing"

	"ratline/curve"
	"ratline/scalar"
)

// many tells the scalar that n is.
func many(n *big.Int) scalar.S {
	return scalar.Of(lowFirst(new(big.Int).Mod(n, order())))
}

// number tells s as a number.
func number(s scalar.S) *big.Int {
	b := s.Bytes()
	slices.Reverse(b)
	return new(big.Int).SetBytes(b)
}

// scalars are those about 0, L and its half, those of one bit, those of many,
// and some drawn.
func scalars() []scalar.S {
	var l []scalar.S
	half := new(big.Int).Rsh(order(), 1)
	for more := int64(-9); more <= 9; more++ {
		l = append(l, many(big.NewInt(more)), many(new(big.Int).Add(half, big.NewInt(more))))
	}
	for by := range uint(253) {
		if by%9 == 0 || by > 248 || by%64 == 63 {
			l = append(l, many(shifted(by, 0)), many(shifted(by, -1)))
		}
	}
	r := rand.New(rand.NewSource(10))
	for range 12 {
		l = append(l, many(new(big.Int).Rand(r, order())))
	}
	return l
}

func TestP92Twice(t *testing.T) {
	want := "c9a3f86aae465f0e56513864510f3997561fa2c9e85ea21dc2292309f3cd6022"
	twice := curve.Base().Add(curve.Base())
	if !bytes.Equal(twice.Bytes(), unhex(t, want)) {
		t.Errorf("the base twice: %x", twice.Bytes())
	}
	for _, a := range points() {
		p := of(t, a)
		is(t, "a point and itself", p.Add(p), a.and(a))
		is(t, "as often as 2", p.Mul(many(big.NewInt(2))), a.and(a))
	}
}

func TestP92Add(t *testing.T) {
	l := points()
	for i, a := range l {
		for j := i % 3; j < len(l); j += 3 {
			is(t, "Add", of(t, a).Add(of(t, l[j])), a.and(l[j]))
		}
	}
}

func TestP92AddSmall(t *testing.T) {
	for _, a := range small() {
		for _, b := range small() {
			is(t, "Add of two small ones", of(t, a).Add(of(t, b)), a.and(b))
		}
		for _, b := range points() {
			is(t, "a small one and a point", of(t, a).Add(of(t, b)), a.and(b))
			is(t, "a point and a small one", of(t, b).Add(of(t, a)), a.and(b))
		}
	}
}

func TestP92Neg(t *testing.T) {
	for _, a := range append(points(), drawn(100)...) {
		b := place{less(new(big.Int), a.x), a.y}
		is(t, "Neg", of(t, a).Neg(), b)
		is(t, "Neg of Neg", of(t, a).Neg().Neg(), a)
		is(t, "a point and its Neg", of(t, a).Add(of(t, b)), nothing())
		is(t, "a Neg and its point", of(t, a).Neg().Add(of(t, a)), nothing())
	}
}

func TestP92MulOfBase(t *testing.T) {
	a := nothing()
	for n := range int64(70) {
		is(t, "the base, so often", curve.Base().Mul(many(big.NewInt(n))), a)
		less := new(big.Int).Sub(order(), big.NewInt(n))
		is(t, "the base, L less so often", curve.Base().Mul(many(less)), place{reduced(new(big.Int).Neg(a.x)), a.y})
		a = a.and(base())
	}
	for _, s := range scalars() {
		is(t, "Mul of the base", curve.Base().Mul(s), base().often(number(s)))
	}
}

// Each bit of a scalar plays its part.
func TestP92MulEachBit(t *testing.T) {
	a := base()
	for bit := range uint(253) {
		is(t, "one bit", curve.Base().Mul(many(shifted(bit, 0))), a)
		a = a.and(a)
	}
}

// A scalar is as many as its number, also where the order doesn't make nothing.
func TestP92MulOfAny(t *testing.T) {
	l := scalars()
	for i, a := range points() {
		p := of(t, a)
		is(t, "0 times", p.Mul(scalar.S{}), nothing())
		is(t, "once", p.Mul(many(big.NewInt(1))), a)
		last := many(big.NewInt(-1))
		is(t, "L less 1 times", p.Mul(last), a.often(number(last)))
		s := l[(7*i+3)%len(l)]
		is(t, "Mul", p.Mul(s), a.often(number(s)))
	}
}

// A small point's multiples come round after 8.
func TestP92MulOfSmall(t *testing.T) {
	for _, a := range small() {
		p := of(t, a)
		for _, s := range scalars() {
			eighth := new(big.Int).Mod(number(s), big.NewInt(8))
			is(t, "Mul of a small one", p.Mul(s), a.often(eighth))
		}
		is(t, "8 times", p.Mul(many(big.NewInt(8))), nothing())
	}
}

func TestP92MulOfNothing(t *testing.T) {
	for _, s := range scalars() {
		is(t, "Mul of a zero P", curve.P{}.Mul(s), nothing())
		is(t, "Mul of nothing", curve.Nothing().Mul(s), nothing())
	}
}

func TestP92Same(t *testing.T) {
	l := points()
	for i, a := range l {
		for j, b := range l {
			same := a.x.Cmp(b.x) == 0 && a.y.Cmp(b.y) == 0
			if of(t, a).Same(of(t, b)) != same {
				t.Errorf("points %d and %d: Same %v", i, j, !same)
			}
		}
	}
}

// However one comes to a point, it is the same one.
func TestP92SameAnyWay(t *testing.T) {
	one := curve.Base()
	for n := range int64(40) {
		sums := curve.Nothing()
		for range n {
			sums = sums.Add(one)
		}
		ways := []curve.P{
			sums,
			one.Mul(many(big.NewInt(n))),
			one.Neg().Mul(many(big.NewInt(-n))),
			one.Mul(many(big.NewInt(n + 5))).Add(one.Mul(many(big.NewInt(-5)))),
			one.Mul(many(big.NewInt(-n))).Neg(),
		}
		for _, p := range ways {
			is(t, "the base, so often", p, base().often(big.NewInt(n)))
			for _, q := range ways {
				if !p.Same(q) || p != q {
					t.Errorf("%d: %x and %x aren't the same", n, p.Bytes(), q.Bytes())
				}
			}
		}
	}
}

// Another program's keys and signatures are points that are reckoned here.
func TestP92Signatures(t *testing.T) {
	for n := range 60 {
		seed, text := random(1000+n), random(n)[:n%size]
		key := ed25519.NewKeyFromSeed(seed)
		public, signature := key.Public().(ed25519.PublicKey), ed25519.Sign(key, text)
		halves := sha512.Sum512(seed)
		halves[0] &= 0xf8
		halves[31] = halves[31]&0x7f | 0x40
		if p := curve.Base().Mul(scalar.Of(halves[:32])); !bytes.Equal(p.Bytes(), public) {
			t.Errorf("key %d: %x, not %x", n, p.Bytes(), public)
		}
		k := sha512.Sum512(slices.Concat(signature[:32], public, text))
		s, _ := scalar.Exact(signature[32:])
		a, ok := curve.Of(public)
		r, right := curve.Of(signature[:32])
		if !ok || !right || !curve.Base().Mul(s).Same(r.Add(a.Mul(scalar.Of(k[:])))) {
			t.Errorf("signature %d: %v, %v, or it doesn't hold", n, ok, right)
		}
	}
}

// What is asked of points leaves them as they are.
func TestP92NothingChanged(t *testing.T) {
	a, b := drawn(2)[0], drawn(2)[1]
	p, q := of(t, a), of(t, b)
	s := many(shifted(200, 77))
	for range 2 {
		is(t, "Add", p.Add(q), a.and(b))
		is(t, "Neg", p.Neg(), place{less(new(big.Int), a.x), a.y})
		is(t, "Mul", p.Mul(s), a.often(shifted(200, 77)))
		is(t, "the first point", p, a)
		is(t, "the second point", q, b)
		if !s.Same(many(shifted(200, 77))) {
			t.Error("Mul changed its scalar")
		}
	}
}

func BenchmarkOf(b *testing.B) {
	x := base().bytes()
	for b.Loop() {
		curve.Of(x)
	}
}

func BenchmarkAdd(b *testing.B) {
	p, q := curve.Base(), curve.Base()
	for b.Loop() {
		p = p.Add(q)
	}
}

func BenchmarkMul(b *testing.B) {
	p, s := curve.Base(), many(big.NewInt(-1))
	for b.Loop() {
		p = p.Mul(s)
	}
}
