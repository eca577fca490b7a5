package plan_test

import (
	"math"
	"testing"

	"ratline/plan"
)

func TestP151Stride(t *testing.T) {
	for i, want := range strides() {
		got := plan.Stride(i + 1)
		places(t, "Stride", got, true, want.z(), i+1)
	}
}

func TestP151StrideOfNoLevel(t *testing.T) {
	l := []int{math.MinInt, math.MinInt + 1, math.MinInt32, math.MaxInt32, 1<<32 + 1, 1 << 62, math.MaxInt - 1, math.MaxInt}
	for level := range 200 {
		l = append(l, -level, 17+level)
	}
	for _, level := range l {
		places(t, "Stride", plan.Stride(level), true, 0, level)
	}
}

func TestP151PlaceWrittenOut(t *testing.T) {
	for _, x := range []struct {
		x, n int
		want complex128
	}{
		{0, 1, 0},
		{0, 2, -1}, {1, 2, 0}, {2, 2, 1},
		{0, 4, -1 - 1i}, {1, 4, -1i}, {2, 4, 1 - 1i}, {3, 4, 0}, {4, 4, -1 + 1i}, {5, 4, 1i}, {6, 4, 1 + 1i},
		{0, 8, -3 - 1i}, {1, 8, -2 - 1i}, {2, 8, -1 - 1i}, {3, 8, -2}, {4, 8, -3 + 1i}, {6, 8, -1 + 1i}, {7, 8, 0},
		{8, 8, 1 - 1i}, {11, 8, 2}, {13, 8, 2 + 1i}, {14, 8, 3 + 1i},
		{0, 16, -3 - 3i}, {7, 16, -2i}, {15, 16, 0}, {16, 16, -3 + 1i}, {23, 16, 2i}, {30, 16, 3 + 3i},
		{0, 65536, -255 - 255i}, {65535, 65536, 0}, {131070, 65536, 255 + 255i}, {32767, 65536, -128i},
		{98303, 65536, 128i}, {16383, 65536, -128 - 128i}, {65534, 65536, 255 - 1i}, {65536, 65536, -255 + 1i},
		{0, 32768, -255 - 127i}, {65534, 32768, 255 + 127i}, {16383, 32768, -128}, {49151, 32768, 128},
	} {
		z, ok := plan.Place(x.x, x.n)
		places(t, "Place", z, ok, x.want, x.x, x.n)
	}
}

func TestP151PlaceOfAll(t *testing.T) {
	for _, n := range sizes() {
		for x, p := range grown(n) {
			z, ok := plan.Place(x, n)
			places(t, "Place", z, ok, p.z(), x, n)
		}
	}
}

func noPlace(t *testing.T, x, n int) {
	t.Helper()
	if z, ok := plan.Place(x, n); ok || z != 0 {
		t.Fatalf("Place of %d and %d: %v, %v", x, n, z, ok)
	} else {
		plain(t, "Place", z, x, n)
	}
}

func TestP151PlaceOfNoNode(t *testing.T) {
	for _, n := range sizes() {
		for _, x := range outside(n) {
			noPlace(t, x, n)
		}
	}
}

func TestP151PlaceOfUnfit(t *testing.T) {
	for _, n := range unfit() {
		for _, x := range append([]int{0, 1, 2, 3, 4, 5, 65535, 98303, 131070, n - 1, 2*n - 2}, outside(8)...) {
			noPlace(t, x, n)
		}
	}
}
