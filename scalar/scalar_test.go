package scalar_test

import (
	"bytes"
	"math"
	"math/big"
	"math/rand"
	"slices"
	"testing"

	"ratline/scalar"
)

const size = 32

// order tells L, as the chapter tells it.
func order() *big.Int {
	l, _ := new(big.Int).SetString("27742317777372353535851937790883648493", 10)
	return l.Add(l, shifted(1, 252, 0))
}

// shifted tells n times 2^by, and more.
func shifted(n int64, by uint, more int64) *big.Int {
	x := new(big.Int).Lsh(big.NewInt(n), by)
	return x.Add(x, big.NewInt(more))
}

// reduced tells n modulo L.
func reduced(n *big.Int) *big.Int {
	return new(big.Int).Mod(n, order())
}

// lowFirst tells n's bytes, the lowest first, of which there are as many as told.
func lowFirst(n *big.Int, many int) []byte {
	b := n.FillBytes(make([]byte, many))
	slices.Reverse(b)
	return b
}

// whole tells the number of b, the lowest byte first.
func whole(b []byte) *big.Int {
	b = bytes.Clone(b)
	slices.Reverse(b)
	return new(big.Int).SetBytes(b)
}

// random tells n bytes, the same ones each time.
func random(n int) []byte {
	b := make([]byte, n)
	rand.New(rand.NewSource(int64(n))).Read(b)
	return b
}

// of tells the scalar that n is, modulo L.
func of(n *big.Int) scalar.S {
	return scalar.Of(lowFirst(reduced(n), size))
}

// is asks that s is n modulo L, by its bytes, its bits, and what is the same.
func is(t *testing.T, what string, s scalar.S, n *big.Int) {
	t.Helper()
	want := reduced(n)
	if b := s.Bytes(); !bytes.Equal(b, lowFirst(want, size)) {
		t.Fatalf("%s: %x, not %x", what, b, lowFirst(want, size))
	}
	for i := range 8 * size {
		if s.Bit(i) != int(want.Bit(i)) {
			t.Fatalf("%s: bit %d of %d is %d", what, i, want, s.Bit(i))
		}
	}
	if !s.Same(of(want)) || !of(want).Same(s) {
		t.Fatalf("%s: isn't the same as %d", what, want)
	}
}

// exact asks that Exact takes n's 32 bytes just if n is below L.
func exact(t *testing.T, n *big.Int) {
	t.Helper()
	s, ok := scalar.Exact(lowFirst(n, size))
	if below := n.Cmp(order()) < 0; ok != below {
		t.Fatalf("Exact of %d: %v", n, ok)
	}
	if !ok {
		n = new(big.Int)
	}
	is(t, "Exact", s, n)
}

// edges are the scalars about 0, L, its half, and the ends of words.
func edges() []*big.Int {
	half := new(big.Int).Rsh(order(), 1)
	var l []*big.Int
	for more := int64(-3); more <= 3; more++ {
		for _, by := range []uint{64, 128, 192, 252} {
			l = append(l, shifted(1, by, more))
		}
		l = append(l, reduced(big.NewInt(more)), new(big.Int).Add(half, big.NewInt(more)))
	}
	return l
}

// patterns are numbers of four words that let much or nothing be carried, or
// missing, those above L among them.
func patterns() []*big.Int {
	words := []uint64{0, 1, math.MaxUint64}
	for _, word := range order().Bits() {
		words = append(words, uint64(word)-1, uint64(word), uint64(word)+1)
	}
	slices.Sort(words)
	words = slices.Compact(words)
	var l []*big.Int
	many := len(words)
	for i := range many * many * many * many {
		n := new(big.Int)
		for range 4 {
			n.Lsh(n, 64).Or(n, new(big.Int).SetUint64(words[i%many]))
			i /= many
		}
		l = append(l, n)
	}
	return l
}

// some are scalars drawn once for all.
func some(many int) []*big.Int {
	r := rand.New(rand.NewSource(8))
	var l []*big.Int
	for range many {
		l = append(l, new(big.Int).Rand(r, order()))
	}
	return l
}

func TestP81Zero(t *testing.T) {
	var zero scalar.S
	is(t, "a zero S", zero, new(big.Int))
	is(t, "Of nil", scalar.Of(nil), new(big.Int))
	is(t, "Of no bytes", scalar.Of([]byte{}), new(big.Int))
	is(t, "Of 0", scalar.Of(make([]byte, size)), new(big.Int))
	is(t, "Of much of 0", scalar.Of(make([]byte, 100)), new(big.Int))
	if s, ok := scalar.Exact(make([]byte, size)); !ok || !s.Same(zero) {
		t.Errorf("Exact of 0: %x, %v", s.Bytes(), ok)
	}
}

func TestP81OfEachLength(t *testing.T) {
	for n := range 140 {
		b := random(n)
		is(t, "Of", scalar.Of(b), whole(b[:min(n, 64)]))
		is(t, "Of, with no room behind it", scalar.Of(b[:n:n]), whole(b[:min(n, 64)]))
		full := bytes.Repeat([]byte{255}, n)
		is(t, "Of 255 everywhere", scalar.Of(full), whole(full[:min(n, 64)]))
	}
	is(t, "Of very many", scalar.Of(random(1<<20)), whole(random(1 << 20)[:64]))
}

func TestP81OfEachBit(t *testing.T) {
	for bit := range 8 * 70 {
		b := make([]byte, 70)
		b[bit/8] = 1 << (bit % 8)
		want := new(big.Int)
		if bit < 512 {
			want = shifted(1, uint(bit), 0)
		}
		is(t, "Of one bit", scalar.Of(b), want)
		is(t, "Of one bit, as far as it", scalar.Of(b[:bit/8+1]), want)
	}
}

// What isn't below L is taken modulo it, however often L is in it.
func TestP81OfAboveTheOrder(t *testing.T) {
	most := shifted(1, 512, -1)
	most.Div(most, order())
	times := []*big.Int{most, new(big.Int).Rsh(most, 1)}
	for n := range int64(20) {
		times = append(times, big.NewInt(n))
	}
	for by := range uint(260) {
		times = append(times, shifted(1, by, -1), shifted(1, by, 0))
	}
	for _, n := range times {
		n = new(big.Int).Mul(n, order())
		for more := int64(-3); more <= 3; more++ {
			x := new(big.Int).Add(n, big.NewInt(more))
			if x.Sign() >= 0 {
				is(t, "Of one about L, so many times", scalar.Of(lowFirst(x, 64)), x)
				is(t, "Of it with bytes behind it", scalar.Of(append(lowFirst(x, 64), 255, 1)), x)
			}
		}
	}
}

func TestP81OfPatterns(t *testing.T) {
	l := patterns()
	for i, n := range l {
		is(t, "Of 32 bytes", scalar.Of(lowFirst(n, size)), n)
		x := new(big.Int).Lsh(l[(i*31+7)%len(l)], 256)
		is(t, "Of 64 bytes", scalar.Of(lowFirst(x.Or(x, n), 64)), x)
	}
}

func TestP81Exact(t *testing.T) {
	for more := int64(-300); more <= 300; more++ {
		exact(t, new(big.Int).Add(order(), big.NewInt(more)))
		if more >= 0 {
			exact(t, big.NewInt(more))
			exact(t, shifted(1, 256, -1-more))
		}
	}
	for _, n := range slices.Concat(edges(), patterns(), some(300)) {
		exact(t, n)
	}
}

// L with one bit turned is taken just if that makes it less; a scalar with one
// bit more is, if that is below L.
func TestP81ExactEachBit(t *testing.T) {
	for bit := range 8 * size {
		for _, n := range append(some(3), order(), new(big.Int)) {
			exact(t, new(big.Int).SetBit(n, bit, 1-n.Bit(bit)))
		}
	}
	for n := int64(2); n < 16; n++ {
		x := new(big.Int).Mul(order(), big.NewInt(n))
		for more := int64(-1); more <= 1; more++ {
			exact(t, new(big.Int).Add(x, big.NewInt(more)))
		}
	}
}

// Of other lengths nothing is exact, be the number below L or not.
func TestP81ExactOtherLengths(t *testing.T) {
	refused := func(b []byte) {
		t.Helper()
		if s, ok := scalar.Exact(b); ok || !s.Same(scalar.S{}) {
			t.Errorf("Exact of %d bytes: %x, %v", len(b), s.Bytes(), ok)
		}
	}
	refused(nil)
	for n := range 140 {
		if n == size {
			continue
		}
		refused(make([]byte, n))
		refused(random(n))
		refused(bytes.Repeat([]byte{255}, n))
		refused(append(lowFirst(some(1)[0], size), make([]byte, n)...)[:n])
		refused(append(lowFirst(some(1)[0], size), random(n)...)[:n])
	}
	refused(make([]byte, 1<<20))
}

// What is handed in stays as it is, and isn't kept; what is told is the caller's.
func TestP81NothingShared(t *testing.T) {
	b := random(70)
	s := scalar.Of(b)
	low := lowFirst(some(1)[0], size)
	x, ok := scalar.Exact(low)
	if !bytes.Equal(b, random(70)) {
		t.Error("Of changed what was handed in")
	}
	if !ok || !bytes.Equal(low, lowFirst(some(1)[0], size)) {
		t.Errorf("Exact (%v) changed what was handed in", ok)
	}
	clear(b)
	clear(low)
	want := whole(random(70)[:64])
	is(t, "Of behind a change of what was handed in", s, want)
	is(t, "Exact behind a change of what was handed in", x, some(1)[0])
	told := s.Bytes()
	clear(told[:cap(told)])
	is(t, "behind a change of what was told", s, want)
}
