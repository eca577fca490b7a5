package field_test

import (
	"bytes"
	"encoding/hex"
	"math"
	"math/big"
	"math/rand"
	"slices"
	"strings"
	"testing"

	"ratline/field"
)

const size = 32

// prime tells 2^255 - 19.
func prime() *big.Int {
	return shifted(1, 255, -19)
}

// shifted tells n times 2^by, and more.
func shifted(n int64, by uint, more int64) *big.Int {
	x := new(big.Int).Lsh(big.NewInt(n), by)
	return x.Add(x, big.NewInt(more))
}

// reduced tells n modulo the prime.
func reduced(n *big.Int) *big.Int {
	return new(big.Int).Mod(n, prime())
}

// lowFirst tells n's bytes, the lowest first, of which there are as many as told.
func lowFirst(n *big.Int, many int) []byte {
	b := n.FillBytes(make([]byte, many))
	slices.Reverse(b)
	return b
}

// whole tells the number of b, the lowest byte first.
func whole(b []byte) *big.Int {
	b = bytes.Clone(b)
	slices.Reverse(b)
	return new(big.Int).SetBytes(b)
}

// random tells n bytes, the same ones each time.
func random(n int) []byte {
	b := make([]byte, n)
	rand.New(rand.NewSource(int64(n))).Read(b)
	return b
}

// of tells the number of the field that n is.
func of(n *big.Int) field.E {
	return field.Of(lowFirst(n, size))
}

// is asks that e is n modulo the prime, by its bytes and by what it tells of
// itself.
func is(t *testing.T, what string, e field.E, n *big.Int) {
	t.Helper()
	want := reduced(n)
	if b := e.Bytes(); !bytes.Equal(b, lowFirst(want, size)) {
		t.Errorf("%s: %x, not %x", what, b, lowFirst(want, size))
	}
	if !e.Same(of(want)) || !of(want).Same(e) {
		t.Errorf("%s: isn't the same as %d", what, want)
	}
	if e.Zero() != (want.Sign() == 0) {
		t.Errorf("%s: Zero %v of %d", what, e.Zero(), want)
	}
	if e.Odd() != (want.Bit(0) == 1) {
		t.Errorf("%s: Odd %v of %d", what, e.Odd(), want)
	}
}

// edges are the numbers about 0, the prime, its half, and the ends of words.
func edges() []*big.Int {
	var l []*big.Int
	for more := int64(-3); more <= 3; more++ {
		for _, by := range []uint{64, 128, 192, 254} {
			l = append(l, shifted(1, by, more))
		}
		l = append(l, reduced(big.NewInt(more)), shifted(1, 254, more-10))
	}
	return l
}

// patterns are numbers of words that let much or nothing be carried, those
// above the prime among them.
func patterns() []*big.Int {
	words := []uint64{0, 1, 1 << 63, math.MaxUint64 - 1, math.MaxUint64}
	var l []*big.Int
	for i := range 5 * 5 * 5 * 5 {
		n := new(big.Int)
		for rest := i + 625; rest > 1; rest /= 5 {
			n.Lsh(n, 64).Or(n, new(big.Int).SetUint64(words[rest%5]))
		}
		l = append(l, n.SetBit(n, 255, 0))
	}
	return l
}

// some are numbers drawn once for all.
func some(many int) []*big.Int {
	r := rand.New(rand.NewSource(6))
	var l []*big.Int
	for range many {
		l = append(l, new(big.Int).Rand(r, prime()))
	}
	return l
}

func TestP61Zero(t *testing.T) {
	var zero field.E
	is(t, "a zero E", zero, new(big.Int))
	is(t, "Num of 0", field.Num(0), new(big.Int))
	is(t, "Of nil", field.Of(nil), new(big.Int))
	is(t, "Of no bytes", field.Of([]byte{}), new(big.Int))
	is(t, "Of 0", field.Of(make([]byte, size)), new(big.Int))
	is(t, "0 and 0", zero.Add(zero), new(big.Int))
	is(t, "0 less 0", zero.Sub(zero), new(big.Int))
	is(t, "less 0", zero.Neg(), new(big.Int))
	is(t, "0 times 0", zero.Mul(zero), new(big.Int))
	is(t, "0 times itself", zero.Square(), new(big.Int))
	is(t, "0 times 5", zero.Mul(field.Num(5)), new(big.Int))
	is(t, "0 and 5", zero.Add(field.Num(5)), big.NewInt(5))
	is(t, "0 less 5", zero.Sub(field.Num(5)), big.NewInt(-5))
}

func TestP61Example(t *testing.T) {
	got := hex.EncodeToString(field.Num(2).Sub(field.Num(3)).Bytes())
	if want := "ec" + strings.Repeat("ff", 30) + "7f"; got != want {
		t.Errorf("2 less 3: %s, not %s", got, want)
	}
}

func TestP61Num(t *testing.T) {
	for _, n := range []uint64{0, 1, 2, 19, 38, 255, 256, 1 << 32, 1<<63 - 1, 1 << 63, math.MaxUint64 - 19, math.MaxUint64} {
		is(t, "Num", field.Num(n), new(big.Int).SetUint64(n))
	}
}

func TestP61OfEachLength(t *testing.T) {
	for n := range 70 {
		b := random(n)
		want := whole(b[:min(n, size)])
		want.SetBit(want, 255, 0)
		is(t, "Of", field.Of(b), want)
	}
}

func TestP61OfEachByte(t *testing.T) {
	for i := range 40 {
		for bit := range 8 {
			b := make([]byte, 40)
			b[i] = 1 << bit
			want := new(big.Int)
			if at := 8*i + bit; at < 255 {
				want = shifted(1, uint(at), 0)
			}
			is(t, "Of one bit", field.Of(b), want)
			is(t, "Of one bit, as far as it", field.Of(b[:i+1]), want)
		}
	}
}

// What isn't below the prime is taken modulo it, with and without the highest
// bit.
func TestP61OfAboveThePrime(t *testing.T) {
	for more := int64(-40); more < 19; more++ {
		b := lowFirst(new(big.Int).Add(prime(), big.NewInt(more)), size)
		is(t, "Of one about the prime", field.Of(b), big.NewInt(more))
		b[size-1] |= 128
		is(t, "Of one with the highest bit", field.Of(b), big.NewInt(more))
		is(t, "Of one with bytes behind it", field.Of(append(b, 255, 255)), big.NewInt(more))
	}
	is(t, "Of 255 everywhere", field.Of(bytes.Repeat([]byte{255}, 100)), big.NewInt(18))
	for _, n := range patterns() {
		is(t, "Of", of(n), n)
	}
}

func TestP61OneNumber(t *testing.T) {
	for _, n := range slices.Concat(edges(), patterns(), some(500)) {
		is(t, "Neg", of(n).Neg(), new(big.Int).Neg(n))
		is(t, "Square", of(n).Square(), new(big.Int).Mul(n, n))
		is(t, "less itself", of(n).Sub(of(n)), new(big.Int))
		is(t, "twice", of(n).Add(of(n)), new(big.Int).Lsh(n, 1))
	}
}

// pair asks of two numbers what two may be asked.
func pair(t *testing.T, n, m *big.Int) {
	t.Helper()
	a, b := of(n), of(m)
	is(t, "Add", a.Add(b), new(big.Int).Add(n, m))
	is(t, "Sub", a.Sub(b), new(big.Int).Sub(n, m))
	is(t, "Mul", a.Mul(b), new(big.Int).Mul(n, m))
	if a.Same(b) != (reduced(n).Cmp(reduced(m)) == 0) {
		t.Errorf("Same %v of %d and %d", a.Same(b), n, m)
	}
}

func TestP61TwoNumbers(t *testing.T) {
	near, far := append(edges(), some(20)...), patterns()
	for _, n := range near {
		for _, m := range near {
			pair(t, n, m)
		}
	}
	for i, n := range far {
		for j := i % 7; j < len(far); j += 7 {
			pair(t, n, far[j])
		}
	}
	drawn := some(4000)
	for i, n := range drawn[1:] {
		pair(t, n, drawn[i])
	}
}

// Numbers that differ in one bit aren't the same, whichever it is.
func TestP61SameEachBit(t *testing.T) {
	for _, n := range append(some(3), new(big.Int)) {
		for bit := range 254 {
			m := new(big.Int).SetBit(n, bit, 1-n.Bit(bit))
			if m.Cmp(prime()) < 0 && (of(n).Same(of(m)) || of(m).Same(of(n))) {
				t.Errorf("%d is the same as %d", n, m)
			}
			if one := of(shifted(1, uint(bit), 0)); one.Zero() {
				t.Errorf("2^%d is 0", bit)
			}
		}
	}
}

// What is handed in stays as it is, and isn't kept; what is told is the caller's.
func TestP61NothingShared(t *testing.T) {
	b := random(40)
	a := field.Of(b)
	if !bytes.Equal(b, random(40)) {
		t.Error("Of changed what was handed in")
	}
	n := whole(a.Bytes())
	clear(b)
	is(t, "behind a change of what was handed in", a, n)
	told := a.Bytes()
	clear(told[:cap(told)])
	is(t, "behind a change of what was told", a, n)
}

// What is asked of two numbers leaves them as they are.
func TestP61NothingChanged(t *testing.T) {
	n, m := some(2)[0], some(2)[1]
	a, b := of(n), of(m)
	for range 2 {
		is(t, "Add", a.Add(b), new(big.Int).Add(n, m))
		is(t, "Sub", a.Sub(b), new(big.Int).Sub(n, m))
		is(t, "Mul", a.Mul(b), new(big.Int).Mul(n, m))
		is(t, "Neg", a.Neg(), new(big.Int).Neg(n))
		is(t, "Square", a.Square(), new(big.Int).Mul(n, n))
		is(t, "the first number", a, n)
		is(t, "the second number", b, m)
	}
}

func BenchmarkAdd(b *testing.B) {
	x, y := of(some(2)[0]), of(some(2)[1])
	for b.Loop() {
		x = x.Add(y)
	}
}

func BenchmarkMul(b *testing.B) {
	x, y := of(some(2)[0]), of(some(2)[1])
	for b.Loop() {
		x = x.Mul(y)
	}
}
