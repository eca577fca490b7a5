package plan_test

import (
	"testing"

	"ratline/plan"
	"ratline/walk"
)

func TestP155NoTwoHaveOnePlace(t *testing.T) {
	for _, n := range sizes() {
		seen := map[complex128]int{}
		for x := range 2*n - 1 {
			z, ok := plan.Place(x, n)
			if y, there := seen[z]; there || !ok {
				t.Fatalf("of %d leaves: %d has the place %v, %v, as %d has", n, x, z, ok, y)
			}
			seen[z] = x
		}
	}
}

func TestP155ByTwoQuarters(t *testing.T) {
	for _, n := range sizes() {
		for x := range 2*n - 1 {
			y, ok := plan.Turn(x, n, 2)
			is(t, "Turn", y, ok, 2*n-2-x, x, n, 2)
			y, ok = plan.Turn(x, n, -2)
			is(t, "Turn", y, ok, 2*n-2-x, x, n, -2)
		}
	}
}

func TestP155EachStandsAtItsPlace(t *testing.T) {
	for _, n := range sizes() {
		for x := range 2*n - 1 {
			z, ok := plan.Place(x, n)
			if !ok {
				t.Fatalf("%d has no place in a tree of %d leaves", x, n)
			}
			at(t, z, n, x)
			y, ok := plan.Turn(x, n, 0)
			is(t, "Turn", y, ok, x, x, n, 0)
		}
	}
}

// The parent stands in the middle of its children, a stride away from each.
func TestP155ParentsBetweenChildren(t *testing.T) {
	for _, n := range sizes() {
		for x := 1; x < 2*n-1; x += 2 {
			z, _ := plan.Place(x, n)
			l, _ := plan.Place(walk.Left(x), n)
			r, _ := plan.Place(walk.Right(x), n)
			if s := plan.Stride(walk.Level(x)); l != z-s || r != z+s {
				t.Fatalf("the children of %d of %d leaves, at %v, stand at %v and %v", x, n, z, l, r)
			}
		}
	}
}

func BenchmarkPlace(b *testing.B) {
	for range b.N {
		plan.Place(131070, mostLeaves)
	}
}

func BenchmarkAt(b *testing.B) {
	for range b.N {
		plan.At(-255-255i, mostLeaves)
	}
}
