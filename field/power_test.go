package field_test

import (
	"bytes"
	"math/big"
	"math/rand"
	"testing"

	"ratline/field"
)

// powered asks Pow of n to the power of e's number.
func powered(t *testing.T, n *big.Int, e []byte) {
	t.Helper()
	is(t, "Pow", of(n).Pow(e), new(big.Int).Exp(n, whole(e), prime()))
}

// hasRoot tells whether n is a square, as another program tells it.
func hasRoot(n *big.Int) bool {
	return big.Jacobi(reduced(n), prime()) >= 0
}

// rooted asks Root of n.
func rooted(t *testing.T, n *big.Int) {
	t.Helper()
	r, ok := of(n).Root()
	if ok != hasRoot(n) {
		t.Errorf("Root of %d: %v", n, ok)
	}
	if !ok {
		is(t, "what is told beside false", r, new(big.Int))
		return
	}
	is(t, "the square of a root", r.Square(), n)
	if r.Odd() || r.Bytes()[0]&1 != 0 {
		t.Errorf("Root of %d is odd", n)
	}
}

// inverted asks Inv of n.
func inverted(t *testing.T, n *big.Int) {
	t.Helper()
	want := new(big.Int).ModInverse(reduced(n), prime())
	if want == nil {
		want = new(big.Int)
	}
	is(t, "Inv", of(n).Inv(), want)
}

func TestP62PowOfNone(t *testing.T) {
	for _, n := range append(edges(), some(10)...) {
		for _, e := range [][]byte{nil, {}, {0}, make([]byte, size), make([]byte, 1000)} {
			is(t, "to the power 0", of(n).Pow(e), big.NewInt(1))
		}
	}
	var zero field.E
	is(t, "a zero E to the power of no bytes", zero.Pow(nil), big.NewInt(1))
	is(t, "a zero E to the power 1", zero.Pow([]byte{1}), new(big.Int))
	is(t, "a zero E to the power 256", zero.Pow([]byte{0, 1}), new(big.Int))
}

func TestP62PowOfFew(t *testing.T) {
	for _, n := range []*big.Int{new(big.Int), big.NewInt(1), big.NewInt(2), big.NewInt(-1), some(1)[0]} {
		for e := range 600 {
			powered(t, reduced(n), []byte{byte(e), byte(e >> 8)})
			powered(t, reduced(n), []byte{byte(e), byte(e >> 8), 0, 0, 0})
		}
	}
}

func TestP62PowEachLength(t *testing.T) {
	for size := range 100 {
		powered(t, some(1)[0], random(size))
		powered(t, some(1)[0], bytes.Repeat([]byte{255}, size))
		powered(t, big.NewInt(3), append(make([]byte, size), 1))
	}
	powered(t, some(1)[0], random(5000))
}

func TestP62PowMany(t *testing.T) {
	r := rand.New(rand.NewSource(62))
	for _, n := range append(edges(), some(100)...) {
		e := make([]byte, r.Intn(40))
		r.Read(e)
		powered(t, n, e)
	}
}

// To the power p - 1 all but 0 is 1, and to the power p all is itself.
func TestP62PowOfThePrime(t *testing.T) {
	p := prime()
	for _, n := range append(edges(), some(20)...) {
		is(t, "to the power p", of(n).Pow(lowFirst(p, size)), n)
		if !of(n).Zero() {
			less := new(big.Int).Sub(p, big.NewInt(1))
			is(t, "to the power p - 1", of(n).Pow(lowFirst(less, size)), big.NewInt(1))
		}
	}
}

// The power stays as it is, and the number.
func TestP62PowNothingChanged(t *testing.T) {
	n, e := some(1)[0], random(50)
	a := of(n)
	is(t, "Pow", a.Pow(e), new(big.Int).Exp(n, whole(e), prime()))
	if !bytes.Equal(e, random(50)) {
		t.Error("Pow changed the power")
	}
	is(t, "the number behind Pow", a, n)
	a.Inv()
	is(t, "the number behind Inv", a, n)
	a.Root()
	is(t, "the number behind Root", a, n)
}

func TestP62Inv(t *testing.T) {
	var zero field.E
	is(t, "Inv of a zero E", zero.Inv(), new(big.Int))
	is(t, "Inv of the prime", of(prime()).Inv(), new(big.Int))
	is(t, "Inv of 1", field.Num(1).Inv(), big.NewInt(1))
	is(t, "Inv of 2", field.Num(2).Inv(), shifted(1, 254, -9))
	for n := range int64(300) {
		inverted(t, big.NewInt(n))
		inverted(t, reduced(big.NewInt(-n)))
	}
	for _, n := range append(patterns(), some(200)...) {
		inverted(t, n)
	}
}

func TestP62RootKnown(t *testing.T) {
	var zero field.E
	if r, ok := zero.Root(); !ok || !r.Zero() {
		t.Errorf("Root of 0: %x, %v", r.Bytes(), ok)
	}
	for _, x := range []struct{ n, want int64 }{{1, -1}, {4, 2}, {9, -3}, {16, 4}, {25, -5}, {36, 6}, {49, -7}} {
		r, ok := field.Num(uint64(x.n)).Root()
		if !ok {
			t.Errorf("Root of %d: none", x.n)
		}
		is(t, "Root", r, big.NewInt(x.want))
	}
	if r, ok := field.Num(2).Root(); ok || !r.Zero() {
		t.Errorf("Root of 2: %x, %v", r.Bytes(), ok)
	}
}

func TestP62Root(t *testing.T) {
	for n := range int64(1000) {
		rooted(t, big.NewInt(n))
		rooted(t, reduced(big.NewInt(-n)))
	}
	for _, n := range append(patterns(), some(300)...) {
		rooted(t, n)
	}
}

// A square has a root, which is the number or 0 less it.
func TestP62RootOfSquares(t *testing.T) {
	for _, n := range append(edges(), some(500)...) {
		a := of(n)
		r, ok := a.Square().Root()
		if !ok || r.Odd() || !r.Same(a) && !r.Same(a.Neg()) {
			t.Errorf("Root of the square of %d: %x, %v", n, r.Bytes(), ok)
		}
	}
}

func BenchmarkInv(b *testing.B) {
	x := of(some(1)[0])
	for b.Loop() {
		x = x.Inv()
	}
}

func BenchmarkRoot(b *testing.B) {
	x := of(some(1)[0]).Square()
	for b.Loop() {
		x.Root()
	}
}
