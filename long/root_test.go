package long_test

import (
	"math"
	"math/big"
	"testing"

	"ratline/long"
)

const greatest = 1 << 20

// power tells x's second (k 2) or third power.
func power(x uint64, k int) uint64 {
	if k == 3 {
		return x * x * x
	}
	return x * x
}

// isRoot tells whether part is the first 64 bits behind the point of n's k-th
// root: this lies at whole and part or above, and below the next one.
func isRoot(part, n uint64, k int) bool {
	whole := uint64(0)
	for power(whole+1, k) <= n {
		whole++
	}
	low := new(big.Int).SetUint64(whole)
	low.Lsh(low, 64).Add(low, new(big.Int).SetUint64(part))
	high := new(big.Int).Add(low, big.NewInt(1))
	scaled := new(big.Int).Lsh(new(big.Int).SetUint64(n), uint(64*k))
	degree := big.NewInt(int64(k))
	return low.Exp(low, degree, nil).Cmp(scaled) <= 0 && high.Exp(high, degree, nil).Cmp(scaled) > 0
}

func rooted(t *testing.T, n uint64, k int) {
	t.Helper()
	if part := long.Root(n, k); !isRoot(part, n, k) {
		t.Errorf("Root(%d, %d): %x", n, k, part)
	}
}

func TestP32Known(t *testing.T) {
	for _, x := range []struct {
		n    uint64
		k    int
		want uint64
	}{
		{2, 2, 0x6a09e667f3bcc908},
		{2, 3, 0x428a2f98d728ae22},
		{19, 2, 0x5be0cd19137e2179},
		{409, 3, 0x6c44198c4a475817},
		{0, 2, 0},
		{0, 3, 0},
		{1, 2, 0},
		{1, 3, 0},
		{4, 2, 0},
		{8, 3, 0},
		{greatest, 2, 0},
	} {
		if got := long.Root(x.n, x.k); got != x.want {
			t.Errorf("Root(%d, %d): %x, not %x", x.n, x.k, got, x.want)
		}
	}
}

func TestP32Small(t *testing.T) {
	for n := range uint64(3000) {
		rooted(t, n, 2)
		rooted(t, n, 3)
	}
}

func TestP32Many(t *testing.T) {
	for n := uint64(1); n <= greatest; n += 101 {
		rooted(t, n, 2)
		rooted(t, n, 3)
	}
	for n := uint64(greatest - 100); n <= greatest; n++ {
		rooted(t, n, 2)
		rooted(t, n, 3)
	}
}

// A whole root has nothing behind the point; beside it the bits are the least
// and the greatest ones.
func TestP32WholeRoots(t *testing.T) {
	for k := 2; k <= 3; k++ {
		for root := uint64(1); power(root, k) <= greatest; root++ {
			n := power(root, k)
			if got := long.Root(n, k); got != 0 {
				t.Errorf("Root(%d, %d): %x, not 0", n, k, got)
			}
			rooted(t, n-1, k)
			if n < greatest {
				rooted(t, n+1, k)
			}
		}
	}
}

func TestP32TooGreat(t *testing.T) {
	for _, n := range []uint64{greatest + 1, greatest + 2, 1<<21 - 1, 1 << 32, 1<<32 + 2, 1<<63 + 2, math.MaxUint64} {
		for k := -1; k <= 4; k++ {
			if got := long.Root(n, k); got != 0 {
				t.Errorf("Root(%d, %d): %x, not 0", n, k, got)
			}
		}
	}
}

func TestP32OtherRoots(t *testing.T) {
	for _, k := range []int{0, 1, 4, 5, 6, 64, -1, -2, -3, 1<<32 + 2, 1<<32 + 3, math.MinInt, math.MinInt + 2, math.MaxInt} {
		for _, n := range []uint64{0, 1, 2, 3, 5, 1000, greatest - 1, greatest, greatest + 1, math.MaxUint64} {
			if got := long.Root(n, k); got != 0 {
				t.Errorf("Root(%d, %d): %x, not 0", n, k, got)
			}
		}
	}
}

func BenchmarkRoot(b *testing.B) {
	for b.Loop() {
		long.Root(409, 3)
	}
}
