package plan_test

import (
	"math"
	"testing"
)

const (
	mostLeaves = 65536
	edge       = 255 // no place of any tree has a part beyond it
)

// point is a place in whole numbers.
type point struct{ x, y int }

func (p point) z() complex128 {
	return complex(float64(p.x), float64(p.y))
}

// turned tells the point turned by a quarter, from the first axis to the second one.
func (p point) turned() point {
	return point{-p.y, p.x}
}

func gap(p, q point) int {
	return (p.x-q.x)*(p.x-q.x) + (p.y-q.y)*(p.y-q.y)
}

// strides tells the strides of the levels 1 to 16, written out.
func strides() []point {
	return []point{
		{1, 0}, {0, 1}, {2, 0}, {0, 2}, {4, 0}, {0, 4}, {8, 0}, {0, 8},
		{16, 0}, {0, 16}, {32, 0}, {0, 32}, {64, 0}, {0, 64}, {128, 0}, {0, 128},
	}
}

// grown tells the points of a tree of n leaves, by their nodes' numbers. It is made from the root on, by halves: the
// node above the leaves from first to last stands in the middle of them.
func grown(n int) []point {
	l := make([]point, 2*n-1)
	height := 0
	for 1<<height < n {
		height++
	}
	var grow func(first, last, level int, p point)
	grow = func(first, last, level int, p point) {
		l[first+last] = p
		if first == last {
			return
		}
		half, s := (last-first)/2, strides()[level-1]
		grow(first, first+half, level-1, point{p.x - s.x, p.y - s.y})
		grow(last-half, last, level-1, point{p.x + s.x, p.y + s.y})
	}
	grow(0, n-1, height, point{})
	return l
}

// standing tells the nodes that stand at the points of a tree.
func standing(l []point) map[point]int {
	m := map[point]int{}
	for x, p := range l {
		m[p] = x
	}
	return m
}

// sizes tells how many leaves a tree can have.
func sizes() []int {
	return []int{1, 2, 4, 8, 16, 32, 64, 128, 256, 512, 1024, 2048, 4096, 8192, 16384, 32768, 65536}
}

// unfit tells some numbers of leaves that no tree has.
func unfit() []int {
	return []int{
		math.MinInt, math.MinInt + 1, math.MinInt32, -65536, -4, -2, -1, 0, 3, 5, 6, 7, 9, 12, 15, 17, 48, 65535, 65537,
		98304, 131071, 131072, 262144, 1 << 31, 1 << 32, 1<<32 + 4, 1 << 62, 1<<62 + 1, math.MaxInt - 1, math.MaxInt,
	}
}

// outside tells some numbers that no node of a tree of n leaves has.
func outside(n int) []int {
	l := []int{
		math.MinInt, math.MinInt + 1, math.MinInt32, -131070, -7, -3, -2, -1, 131071, 131072, 131073, 262143, 1 << 31,
		1 << 32, 1<<32 + 1, 1 << 62, math.MaxInt - 1, math.MaxInt,
	}
	return append(l, 2*n-1, 2*n, 2*n+1, 4*n-2, 4*n-1)
}

// places asks for a place, and that no nought of it has a minus.
func places(t *testing.T, what string, got complex128, ok bool, want complex128, of ...int) {
	t.Helper()
	if !ok || got != want {
		t.Fatalf("%s of %v: %v, %v, not %v", what, of, got, ok, want)
	}
	plain(t, what, got, of...)
}

func plain(t *testing.T, what string, got complex128, of ...int) {
	t.Helper()
	for _, f := range []float64{real(got), imag(got)} {
		if f == 0 && math.Signbit(f) {
			t.Fatalf("%s of %v: a nought has a minus", what, of)
		}
	}
}

// is asks for a number that is there.
func is(t *testing.T, what string, got int, ok bool, want int, of ...int) {
	t.Helper()
	if !ok || got != want {
		t.Fatalf("%s of %v: %d, %v, not %d", what, of, got, ok, want)
	}
}

// isNone asks that there is no number.
func isNone(t *testing.T, what string, got int, ok bool, of ...int) {
	t.Helper()
	if ok || got != 0 {
		t.Fatalf("%s of %v: %d, %v, not 0, false", what, of, got, ok)
	}
}
