package curve_test

import (
	"bytes"
	"encoding/hex"
	"math/big"
	"math/rand"
	"slices"
	"strings"
	"testing"

	"ratline/curve"
)

const size = 32

// place is a point, reckoned by the chapter's words.
type place struct{ x, y *big.Int }

// prime tells 2^255 - 19.
func prime() *big.Int {
	return shifted(255, -19)
}

// order tells L.
func order() *big.Int {
	l, _ := new(big.Int).SetString("27742317777372353535851937790883648493", 10)
	return l.Add(l, shifted(252, 0))
}

// shifted tells 2^by, and more.
func shifted(by uint, more int64) *big.Int {
	n := new(big.Int).Lsh(big.NewInt(1), by)
	return n.Add(n, big.NewInt(more))
}

// reduced tells n modulo the prime.
func reduced(n *big.Int) *big.Int {
	return new(big.Int).Mod(n, prime())
}

// times tells the product of all, modulo the prime.
func times(all ...*big.Int) *big.Int {
	n := big.NewInt(1)
	for _, m := range all {
		n = reduced(n.Mul(n, m))
	}
	return n
}

// over tells n times what makes 1 with m.
func over(n, m *big.Int) *big.Int {
	return times(n, new(big.Int).ModInverse(reduced(m), prime()))
}

// sum tells n and m.
func sum(n, m *big.Int) *big.Int {
	return reduced(new(big.Int).Add(n, m))
}

// less tells n less m.
func less(n, m *big.Int) *big.Int {
	return reduced(new(big.Int).Sub(n, m))
}

// factor tells d.
func factor() *big.Int {
	return over(big.NewInt(-121665), big.NewInt(121666))
}

// nothing tells (0, 1).
func nothing() place {
	return place{new(big.Int), big.NewInt(1)}
}

// rooted tells the place of y whose x is as odd as told, if there is one.
func rooted(y *big.Int, odd uint) (place, bool) {
	one, yy := big.NewInt(1), times(y, y)
	x := new(big.Int).ModSqrt(over(less(yy, one), sum(one, times(factor(), yy))), prime())
	if x == nil || x.Sign() == 0 && odd == 1 {
		return place{}, false
	}
	if x.Bit(0) != odd {
		x.Sub(prime(), x)
	}
	return place{x, y}, true
}

// base tells the base's place.
func base() place {
	a, _ := rooted(over(big.NewInt(4), big.NewInt(5)), 0)
	return a
}

// onCurve tells whether a's numbers are as the curve's are.
func (a place) onCurve() bool {
	xx, yy := times(a.x, a.x), times(a.y, a.y)
	return less(yy, xx).Cmp(sum(big.NewInt(1), times(factor(), xx, yy))) == 0
}

// and tells the sum of a and b.
func (a place) and(b place) place {
	one, part := big.NewInt(1), times(factor(), a.x, a.y, b.x, b.y)
	return place{
		over(sum(times(a.x, b.y), times(a.y, b.x)), sum(one, part)),
		over(sum(times(a.y, b.y), times(a.x, b.x)), less(one, part)),
	}
}

// often tells the sum of a as often as n.
func (a place) often(n *big.Int) place {
	b := nothing()
	for i := n.BitLen() - 1; i >= 0; i-- {
		b = b.and(b)
		if n.Bit(i) == 1 {
			b = b.and(a)
		}
	}
	return b
}

// bytes tells a's bytes.
func (a place) bytes() []byte {
	b := lowFirst(a.y)
	b[size-1] |= byte(a.x.Bit(0)) << 7
	return b
}

// lowFirst tells n's bytes, the lowest first.
func lowFirst(n *big.Int) []byte {
	b := n.FillBytes(make([]byte, size))
	slices.Reverse(b)
	return b
}

func unhex(t *testing.T, text string) []byte {
	t.Helper()
	b, err := hex.DecodeString(text)
	if err != nil {
		t.Fatal(err)
	}
	return b
}

// random tells size bytes, the same ones for the same seed.
func random(seed int) []byte {
	b := make([]byte, size)
	rand.New(rand.NewSource(int64(seed))).Read(b)
	return b
}

// small are the eight points of which 8 times is nothing.
func small() []place {
	last := less(new(big.Int), big.NewInt(1))
	root := new(big.Int).ModSqrt(last, prime())
	l := []place{nothing(), {new(big.Int), last}, {root, new(big.Int)}, {less(new(big.Int), root), new(big.Int)}}
	// Twice such a point has the y 0, so that y^2 is -x^2, and 1 + d x^2 y^2 is
	// 2 y^2: d y^4 and 2 y^2 - 1 make 0.
	d := factor()
	inner := new(big.Int).ModSqrt(sum(big.NewInt(1), d), prime())
	for _, yy := range []*big.Int{over(less(inner, big.NewInt(1)), d), over(less(new(big.Int), sum(inner, big.NewInt(1))), d)} {
		y := new(big.Int).ModSqrt(yy, prime())
		if y == nil {
			continue
		}
		for odd := range uint(2) {
			for _, y := range []*big.Int{y, less(new(big.Int), y)} {
				if a, ok := rooted(y, odd); ok {
					l = append(l, a)
				}
			}
		}
	}
	return l
}

// drawn are points drawn once for all, most of which aren't multiples of the
// base.
func drawn(many int) []place {
	var l []place
	r := rand.New(rand.NewSource(9))
	for len(l) < many {
		if a, ok := rooted(new(big.Int).Rand(r, prime()), uint(len(l)%2)); ok {
			l = append(l, a)
		}
	}
	return l
}

// edges are the points whose y is about 0, the prime, its half, and the ends of
// words, the small ones, and some multiples of the base.
func edges() []place {
	l := small()
	add := func(y *big.Int) {
		for odd := range uint(2) {
			if a, ok := rooted(reduced(y), odd); ok {
				l = append(l, a)
			}
		}
	}
	for more := int64(-4); more <= 4; more++ {
		add(big.NewInt(more))
		for _, by := range []uint{64, 128, 192, 254} {
			add(shifted(by, more))
		}
	}
	for n := int64(1); n < 9; n++ {
		a := base().often(big.NewInt(n))
		l = append(l, a, place{less(new(big.Int), a.x), a.y}, a.and(small()[n-1]))
	}
	return l
}

// points are those of which much is asked.
func points() []place {
	return append(edges(), drawn(20)...)
}

// of tells the point of a.
func of(t *testing.T, a place) curve.P {
	t.Helper()
	p, ok := curve.Of(a.bytes())
	if !ok {
		t.Fatalf("Of(%x): false", a.bytes())
	}
	return p
}

// is asks that p is a.
func is(t *testing.T, what string, p curve.P, a place) {
	t.Helper()
	if !a.onCurve() {
		t.Fatalf("%s: (%d, %d) isn't of the curve", what, a.x, a.y)
	}
	if b := p.Bytes(); !bytes.Equal(b, a.bytes()) {
		t.Fatalf("%s: %x, not %x", what, b, a.bytes())
	}
	if !p.Right() {
		t.Fatalf("%s: %x isn't right", what, p.Bytes())
	}
	if q := of(t, a); !p.Same(q) || !q.Same(p) || p != q {
		t.Fatalf("%s: isn't the same as the point of %x", what, a.bytes())
	}
}

// refused asks that no point is of b.
func refused(t *testing.T, what string, b []byte) {
	t.Helper()
	p, ok := curve.Of(b)
	if ok || !p.Same(curve.Nothing()) || p != (curve.P{}) {
		t.Errorf("%s: Of(%x): %x, %v", what, b, p.Bytes(), ok)
	}
}

// taken asks of 32 bytes just what the chapter tells of them.
func taken(t *testing.T, what string, b []byte) {
	t.Helper()
	y := bytes.Clone(b)
	y[size-1] &= 0x7f
	slices.Reverse(y)
	n := new(big.Int).SetBytes(y)
	a, ok := rooted(n, uint(b[size-1]>>7))
	if n.Cmp(prime()) >= 0 || !ok {
		refused(t, what, b)
		return
	}
	p, ok := curve.Of(b)
	if !ok {
		t.Fatalf("%s: Of(%x): false", what, b)
	}
	is(t, what, p, a)
	if !bytes.Equal(p.Bytes(), b) {
		t.Fatalf("%s: %x, not %x", what, p.Bytes(), b)
	}
}

func TestP91Example(t *testing.T) {
	want := "58" + strings.Repeat("66", 31)
	if got := hex.EncodeToString(curve.Base().Bytes()); got != want {
		t.Errorf("Base: %s, not %s", got, want)
	}
	is(t, "Base", curve.Base(), base())
	p, ok := curve.Of(unhex(t, want))
	if !ok || !p.Same(curve.Base()) {
		t.Errorf("Of the base's bytes: %x, %v", p.Bytes(), ok)
	}
}

func TestP91Zero(t *testing.T) {
	var zero curve.P
	one := append([]byte{1}, make([]byte, size-1)...)
	for _, p := range []curve.P{zero, curve.Nothing()} {
		is(t, "nothing", p, nothing())
		if !bytes.Equal(p.Bytes(), one) {
			t.Errorf("nothing: %x", p.Bytes())
		}
		is(t, "nothing and nothing", p.Add(p), nothing())
		is(t, "Neg of nothing", p.Neg(), nothing())
		is(t, "nothing and the base", p.Add(curve.Base()), base())
		is(t, "the base and nothing", curve.Base().Add(p), base())
	}
	if p, ok := curve.Of(one); !ok || p != zero {
		t.Errorf("Of nothing's bytes: %x, %v", p.Bytes(), ok)
	}
}

func TestP91OtherLengths(t *testing.T) {
	refused(t, "nil", nil)
	long := slices.Concat(base().bytes(), base().bytes(), base().bytes())
	one := append([]byte{1}, make([]byte, 3*size)...)
	for n := range len(long) {
		if n == size {
			continue
		}
		refused(t, "the base's bytes and more", long[:n])
		refused(t, "fewer of the base's bytes", long[:n:n])
		refused(t, "nothing's bytes", one[:n])
		refused(t, "noughts", make([]byte, n))
		refused(t, "the base's bytes behind others", append(make([]byte, n), long[:size]...)[:n])
	}
	refused(t, "very many bytes", bytes.Repeat(base().bytes(), 1<<15))
}

// A y that isn't below the prime is refused, though it were a point's modulo it.
func TestP91AboveThePrime(t *testing.T) {
	points := 0
	for n := range int64(19) {
		for odd := range uint(2) {
			b := lowFirst(shifted(255, n-19))
			b[size-1] |= byte(odd) << 7
			refused(t, "a few and the prime", b)
			if _, ok := rooted(big.NewInt(n), odd); ok {
				points++
			}
		}
	}
	if points < 10 {
		t.Errorf("%d of them alone were points'", points)
	}
	for n := range int64(40) {
		for odd := range byte(2) {
			b := lowFirst(shifted(255, -20-n))
			b[size-1] |= odd << 7
			taken(t, "the prime less a few", b)
			b = lowFirst(big.NewInt(n))
			b[size-1] |= odd << 7
			taken(t, "a few", b)
		}
	}
	refused(t, "255 everywhere", bytes.Repeat([]byte{255}, size))
}

func TestP91NoX(t *testing.T) {
	none, some := 0, 0
	for seed := range 400 {
		b := random(seed)
		taken(t, "bytes drawn", b)
		if _, ok := curve.Of(b); ok {
			some++
		} else {
			none++
		}
		b[size-1] ^= 0x80
		taken(t, "bytes drawn, with the highest bit turned", b)
	}
	if none < 100 || some < 100 {
		t.Errorf("%d without an x, %d with one", none, some)
	}
	refused(t, "y 2", append([]byte{2}, make([]byte, size-1)...))
}

// Of x 0 there is one form, without the highest bit.
func TestP91XZero(t *testing.T) {
	for _, a := range small()[:2] {
		b := a.bytes()
		is(t, "x 0", of(t, a), a)
		b[size-1] |= 0x80
		refused(t, "x 0, with the highest bit", b)
	}
}

// Each bit of a point's bytes plays a part; the highest one tells the point and
// its Neg apart.
func TestP91EachBit(t *testing.T) {
	for _, a := range []place{base(), nothing(), small()[1], small()[2], drawn(1)[0]} {
		for bit := range 8 * size {
			b := a.bytes()
			b[bit/8] ^= 1 << (bit % 8)
			taken(t, "one bit turned", b)
			if p, ok := curve.Of(b); ok && p.Same(of(t, a)) {
				t.Errorf("%x and %x are the same", b, a.bytes())
			}
		}
	}
}

func TestP91Points(t *testing.T) {
	for _, a := range append(points(), drawn(200)...) {
		p := of(t, a)
		is(t, "Of", p, a)
		if !bytes.Equal(p.Bytes(), a.bytes()) {
			t.Errorf("Bytes: %x, not %x", p.Bytes(), a.bytes())
		}
	}
}

// What is handed in stays as it is, and isn't kept; what is told is the caller's.
func TestP91NothingShared(t *testing.T) {
	a := drawn(1)[0]
	b := a.bytes()
	p, ok := curve.Of(b)
	if !ok || !bytes.Equal(b, a.bytes()) {
		t.Fatalf("Of (%v) changed what was handed in", ok)
	}
	clear(b)
	is(t, "behind a change of what was handed in", p, a)
	told := p.Bytes()
	clear(told[:cap(told)])
	is(t, "behind a change of what was told", p, a)
	told = curve.Base().Bytes()
	clear(told[:cap(told)])
	is(t, "Base behind a change of what was told", curve.Base(), base())
	told = curve.Nothing().Bytes()
	clear(told[:cap(told)])
	is(t, "Nothing behind a change of what was told", curve.Nothing(), nothing())
}
