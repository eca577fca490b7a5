package scalar_test

import (
	"bytes"
	"crypto/ed25519"
	"crypto/sha512"
	"encoding/hex"
	"math"
	"math/big"
	"slices"
	"strings"
	"testing"

	"ratline/scalar"
)

func unhex(t *testing.T, text string) []byte {
	t.Helper()
	b, err := hex.DecodeString(text)
	if err != nil {
		t.Fatal(err)
	}
	return b
}

func TestP82Example(t *testing.T) {
	b := scalar.Of([]byte{1}).Neg().Bytes()
	if b[0] != 0xec {
		t.Errorf("Neg of 1: %x", b)
	}
	want := "ecd3f55c1a631258d69cf7a2def9de14" + strings.Repeat("00", 15) + "10"
	is(t, "Neg of 1", scalar.Of([]byte{1}).Neg(), whole(unhex(t, want)))
}

func TestP82OneNumber(t *testing.T) {
	for _, n := range slices.Concat(edges(), patterns(), some(500)) {
		s := of(n)
		is(t, "itself", s, n)
		is(t, "Neg", s.Neg(), new(big.Int).Neg(n))
		is(t, "twice", s.Add(s), new(big.Int).Lsh(n, 1))
		is(t, "times itself", s.Mul(s), new(big.Int).Mul(n, n))
	}
}

// pair asks of two numbers what two may be asked.
func pair(t *testing.T, n, m *big.Int) {
	t.Helper()
	a, b := of(n), of(m)
	is(t, "Add", a.Add(b), new(big.Int).Add(n, m))
	is(t, "Mul", a.Mul(b), new(big.Int).Mul(n, m))
	if a.Same(b) != (reduced(n).Cmp(reduced(m)) == 0) {
		t.Fatalf("Same %v of %d and %d", a.Same(b), n, m)
	}
}

func TestP82TwoNumbers(t *testing.T) {
	near, far := append(edges(), some(20)...), patterns()
	for _, n := range near {
		for _, m := range near {
			pair(t, n, m)
		}
	}
	for i, n := range far {
		pair(t, n, far[(i*37+11)%len(far)])
	}
	drawn := some(2000)
	for i, n := range drawn[1:] {
		pair(t, n, drawn[i])
	}
}

// A sum that comes to L, or to one or two less or more.
func TestP82AddAboutTheOrder(t *testing.T) {
	for _, n := range append(edges(), some(100)...) {
		for more := int64(-2); more <= 2; more++ {
			m := new(big.Int).Sub(order(), n)
			pair(t, n, m.Add(m, big.NewInt(more)))
		}
	}
}

// One bit times one bit, whichever they are.
func TestP82MulEachBit(t *testing.T) {
	for i := range uint(253) {
		for j := i % 11; j < 253; j += 11 {
			is(t, "Mul of two bits", of(shifted(1, i, 0)).Mul(of(shifted(1, j, 0))), shifted(1, i+j, 0))
		}
	}
}

func TestP82BitBeyondAll(t *testing.T) {
	var ends []int
	for i := range 700 {
		ends = append(ends, -1-i, 253+i)
	}
	for by := range 63 {
		ends = append(ends, -1<<by, max(253, 1<<by), max(253, 1<<by-1), -1<<by-1)
	}
	ends = append(ends, math.MinInt, math.MinInt+1, math.MaxInt, math.MaxInt-1)
	for _, n := range append(edges(), some(10)...) {
		s := of(n)
		for _, i := range ends {
			if bit := s.Bit(i); bit != 0 {
				t.Fatalf("bit %d of %d is %d", i, n, bit)
			}
		}
	}
}

// Scalars that differ in one bit aren't the same, whichever it is.
func TestP82SameEachBit(t *testing.T) {
	for _, n := range append(some(5), new(big.Int)) {
		for bit := range 253 {
			m := new(big.Int).SetBit(n, bit, 1-n.Bit(bit))
			if m.Cmp(order()) < 0 && (of(n).Same(of(m)) || of(m).Same(of(n))) {
				t.Errorf("%d is the same as %d", n, m)
			}
		}
	}
}

// However one comes to a scalar, it is the same one.
func TestP82SameAnyWay(t *testing.T) {
	for _, n := range append(edges(), some(50)...) {
		s := of(n)
		x, ok := scalar.Exact(lowFirst(n, size))
		ways := []scalar.S{
			x,
			scalar.Of(lowFirst(new(big.Int).Add(n, order()), 64)),
			s.Neg().Neg(),
			s.Add(of(big.NewInt(5))).Add(of(big.NewInt(5)).Neg()),
			s.Mul(of(big.NewInt(1))),
		}
		for i, way := range ways {
			if !ok || !s.Same(way) || !way.Same(s) || s != way {
				t.Errorf("way %d to %d: %x, %v", i, n, way.Bytes(), ok)
			}
		}
	}
}

// Another program's signatures have, as their other half, what is reckoned here.
func TestP82Signatures(t *testing.T) {
	for n := range 60 {
		seed, text := random(1000 + n)[:32], random(n)
		key := ed25519.NewKeyFromSeed(seed)
		public, signature := key.Public().(ed25519.PublicKey), ed25519.Sign(key, text)
		halves := sha512.Sum512(seed)
		halves[0] &= 0xf8
		halves[31] = halves[31]&0x7f | 0x40
		r := sha512.Sum512(slices.Concat(halves[32:], text))
		k := sha512.Sum512(slices.Concat(signature[:32], public, text))
		told := scalar.Of(k[:]).Mul(scalar.Of(halves[:32])).Add(scalar.Of(r[:]))
		if !bytes.Equal(told.Bytes(), signature[32:]) {
			t.Errorf("signature %d: %x, not %x", n, told.Bytes(), signature[32:])
		}
		if s, ok := scalar.Exact(signature[32:]); !ok || !s.Same(told) {
			t.Errorf("signature %d: Exact %x, %v", n, s.Bytes(), ok)
		}
	}
}

// What is asked of two scalars leaves them as they are.
func TestP82NothingChanged(t *testing.T) {
	n, m := some(2)[0], some(2)[1]
	a, b := of(n), of(m)
	for range 2 {
		is(t, "Add", a.Add(b), new(big.Int).Add(n, m))
		is(t, "Mul", a.Mul(b), new(big.Int).Mul(n, m))
		is(t, "Neg", a.Neg(), new(big.Int).Neg(n))
		is(t, "the first scalar", a, n)
		is(t, "the second scalar", b, m)
	}
}

func BenchmarkOf(b *testing.B) {
	x := random(64)
	for b.Loop() {
		scalar.Of(x)
	}
}

func BenchmarkMul(b *testing.B) {
	x, y := of(some(2)[0]), of(some(2)[1])
	for b.Loop() {
		x = x.Mul(y)
	}
}
