package walk_test

import (
	"math"
	"slices"
	"testing"
)

const (
	mostLeaves = 65536
	lastNode   = 131070
	none       = -1
)

// spot is a node as a tree that is halved again and again has it.
type spot struct {
	level, first, last, parent, sibling, left, right int
}

// grown tells the spots of a tree of n leaves, by their numbers. It is made from the root on, by halves: the
// node above the leaves from first to last stands in the middle of them.
func grown(n int) []spot {
	l := make([]spot, 2*n-1)
	var grow func(first, last, parent, sibling int) int
	grow = func(first, last, parent, sibling int) int {
		x := first + last
		l[x] = spot{0, first, last, parent, sibling, none, none}
		if first == last {
			return 0
		}
		half := (last - first) / 2
		l[x].left, l[x].right = 2*first+half, 2*last-half
		grow(first, first+half, x, l[x].right)
		l[x].level = 1 + grow(last-half, last, x, l[x].left)
		return l[x].level
	}
	grow(0, n-1, none, none)
	return l
}

// sizes tells how many leaves a tree can have.
func sizes() []int {
	return []int{1, 2, 4, 8, 16, 32, 64, 128, 256, 512, 1024, 2048, 4096, 8192, 16384, 32768, 65536}
}

// unfit tells some numbers of leaves that no tree has.
func unfit() []int {
	return []int{
		math.MinInt, math.MinInt + 1, math.MinInt32, -65536, -4, -2, -1, 0, 3, 5, 6, 7, 9, 12, 15, 17, 48, 65535, 65537,
		98304, 131071, 131072, 262144, 1 << 31, 1 << 32, 1<<32 + 4, 1 << 62, 1<<62 + 1, math.MaxInt - 1, math.MaxInt,
	}
}

// outside tells some numbers that no node of a tree of n leaves has.
func outside(n int) []int {
	l := []int{
		math.MinInt, math.MinInt + 1, math.MinInt32, -131070, -7, -3, -2, -1, 131071, 131072, 131073, 262143, 1 << 31,
		1 << 32, 1<<32 + 1, 1 << 62, math.MaxInt - 1, math.MaxInt,
	}
	return append(l, 2*n-1, 2*n, 2*n+1, 4*n-2, 4*n-1)
}

func is(t *testing.T, what string, got, want int, of ...int) {
	t.Helper()
	if got != want {
		t.Fatalf("%s of %v: %d, not %d", what, of, got, want)
	}
}

func are(t *testing.T, what string, got, want []int, of ...int) {
	t.Helper()
	if !slices.Equal(got, want) {
		t.Fatalf("%s of %v: %v, not %v", what, of, got, want)
	}
}
