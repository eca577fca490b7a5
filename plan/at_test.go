package plan_test

import (
	"math"
	"testing"

	"ratline/plan"
)

func at(t *testing.T, z complex128, n, want int) {
	t.Helper()
	if x, ok := plan.At(z, n); !ok || x != want {
		t.Fatalf("At %v of %d: %d, %v, not %d", z, n, x, ok, want)
	}
}

func noneAt(t *testing.T, z complex128, n int) {
	t.Helper()
	if x, ok := plan.At(z, n); ok || x != 0 {
		t.Fatalf("At %v of %d: %d, %v, not 0, false", z, n, x, ok)
	}
}

func TestP152AtWrittenOut(t *testing.T) {
	at(t, 0, 1, 0)
	at(t, -1, 2, 0)
	at(t, 0, 2, 1)
	at(t, 1, 2, 2)
	for x, z := range []complex128{-1 - 1i, -1i, 1 - 1i, 0, -1 + 1i, 1i, 1 + 1i} {
		at(t, z, 4, x)
	}
	at(t, -255-255i, 65536, 0)
	at(t, 0, 65536, 65535)
	at(t, 255+255i, 65536, 131070)
	noneAt(t, 1, 1)
	noneAt(t, 1i, 2)
	noneAt(t, 2, 2)
	noneAt(t, 1, 4)
	noneAt(t, -1, 4)
	noneAt(t, 2i, 4)
	noneAt(t, 3+1i, 4)
	noneAt(t, 1, 8)
	noneAt(t, 1i, 8)
	noneAt(t, 256+255i, 65536)
	noneAt(t, 255+256i, 65536)
	noneAt(t, -255-254i, 65536)
}

// All whole numbers near the places are asked for, so that none is told where nobody stands.
func TestP152AtOfAll(t *testing.T) {
	for _, n := range sizes() {
		m := standing(grown(n))
		far := min(edge, n) + 3
		for x := -far; x <= far; x++ {
			for y := -far; y <= far; y++ {
				p := point{x, y}
				if want, ok := m[p]; ok {
					at(t, p.z(), n, want)
				} else {
					noneAt(t, p.z(), n)
				}
			}
		}
	}
}

func TestP152AtWithMinusNought(t *testing.T) {
	less := math.Copysign(0, -1)
	for _, n := range sizes() {
		for _, z := range []complex128{complex(less, 0), complex(0, less), complex(less, less)} {
			at(t, z, n, n-1)
		}
	}
	at(t, complex(-1, less), 2, 0)
	at(t, complex(1, less), 2, 2)
	at(t, complex(less, -1), 4, 1)
	at(t, complex(less, 1), 4, 5)
	at(t, complex(-2, less), 8, 3)
	at(t, complex(less, 128), 65536, 98303)
}

func TestP152AtBesideAPlace(t *testing.T) {
	for _, n := range sizes() {
		l := grown(n)
		for x := 0; x < len(l); x += 1 + n/50 {
			a, b := float64(l[x].x), float64(l[x].y)
			for _, to := range []float64{math.Inf(-1), math.Inf(1)} {
				noneAt(t, complex(math.Nextafter(a, to), b), n)
				noneAt(t, complex(a, math.Nextafter(b, to)), n)
			}
			for _, by := range []float64{0.5, 0.25, 1.0 / 3, 1e-9} {
				noneAt(t, complex(a+by, b), n)
				noneAt(t, complex(a, b-by), n)
				noneAt(t, complex(a-by, b+by), n)
			}
		}
	}
}

func TestP152AtOddNumbers(t *testing.T) {
	l := []float64{
		math.NaN(), math.Inf(1), math.Inf(-1), math.MaxFloat64, -math.MaxFloat64, 1e300, -1e300, 1 << 53, -1 << 53, 1 << 63,
		1 << 32, 1<<32 + 1, math.SmallestNonzeroFloat64, -math.SmallestNonzeroFloat64, 1e-300, -1e-300, 0.1,
	}
	for _, n := range sizes() {
		for _, a := range l {
			for _, b := range append(l, 0, 1, -1, 2, 255) {
				noneAt(t, complex(a, b), n)
				noneAt(t, complex(b, a), n)
			}
		}
	}
}

func TestP152AtOfUnfit(t *testing.T) {
	for _, n := range unfit() {
		for _, z := range []complex128{0, 1, -1, 1i, -1 - 1i, 255 + 255i, complex(math.NaN(), 0)} {
			noneAt(t, z, n)
		}
	}
}
