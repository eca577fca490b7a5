package walk_test

import (
	"math/rand"
	"testing"

	"ratline/walk"
)

// covered asks that the leaves beneath a node and beneath its copath's are all leaves, each once.
func covered(t *testing.T, x, n int) {
	t.Helper()
	count := make([]int, n)
	for _, y := range append(walk.Copath(x, n), x) {
		first, last := walk.Span(y)
		for i := first; i <= last; i++ {
			count[i]++
		}
	}
	for i, c := range count {
		if c != 1 {
			t.Fatalf("of the node %d and %d leaves: the leaf %d comes %d times", x, n, i, c)
		}
	}
}

func TestP144EachLeafOnce(t *testing.T) {
	for _, n := range sizes()[:9] {
		for x := range 2*n - 1 {
			covered(t, x, n)
		}
	}
	r := rand.New(rand.NewSource(144))
	for _, n := range sizes()[9:] {
		for range 20 {
			covered(t, r.Intn(2*n-1), n)
		}
		covered(t, n-1, n)
	}
}

func TestP144AsManyOnBothPaths(t *testing.T) {
	for _, n := range sizes() {
		for x := 0; x < 2*n-1; x += 1 + n/300 {
			path, copath := walk.Path(x, n), walk.Copath(x, n)
			is(t, "how many of Path", len(path), walk.Level(walk.Root(n))-walk.Level(x), x, n)
			is(t, "how many of Copath", len(copath), len(path), x, n)
			for i, y := range path {
				is(t, "the sibling's parent", walk.Parent(copath[i], n), y, x, n)
				is(t, "the sibling's level", walk.Level(copath[i]), walk.Level(y)-1, x, n)
			}
		}
	}
}

func TestP144AGreaterTreeHasTheSame(t *testing.T) {
	for _, n := range sizes()[:16] {
		for x := range 2*n - 1 {
			if x == n-1 {
				is(t, "Parent of the lesser root", walk.Parent(x, 2*n), 2*n-1, x, 2*n)
				continue
			}
			is(t, "Parent", walk.Parent(x, 2*n), walk.Parent(x, n), x, n)
			is(t, "Sibling", walk.Sibling(x, 2*n), walk.Sibling(x, n), x, n)
		}
	}
}

func TestP144ChildrenAndParentsAgree(t *testing.T) {
	for _, n := range sizes() {
		for x := 1; x < 2*n-1; x += 2 {
			l, r := walk.Left(x), walk.Right(x)
			is(t, "Parent", walk.Parent(l, n), x, l, n)
			is(t, "Parent", walk.Parent(r, n), x, r, n)
			is(t, "Sibling", walk.Sibling(l, n), r, l, n)
			is(t, "Sibling", walk.Sibling(r, n), l, r, n)
			is(t, "Common", walk.Common(l, r, n), x, l, r, n)
			first, middle := walk.Span(l)
			next, last := walk.Span(r)
			is(t, "the right child's first leaf", next, middle+1, x)
			from, to := walk.Span(x)
			is(t, "the first leaf", from, first, x)
			is(t, "the last leaf", to, last, x)
		}
	}
}

func BenchmarkPath(b *testing.B) {
	for range b.N {
		walk.Path(131070, mostLeaves)
	}
}

func BenchmarkCommon(b *testing.B) {
	for range b.N {
		walk.Common(0, 131070, mostLeaves)
	}
}
