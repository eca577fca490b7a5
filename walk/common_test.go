package walk_test

import (
	"math/rand"
	"testing"

	"ratline/walk"
)

func TestP143CommonWrittenOut(t *testing.T) {
	for _, x := range [][4]int{
		{0, 0, 1, 0}, {0, 0, 2, 0}, {0, 2, 2, 1}, {0, 1, 2, 1}, {1, 1, 2, 1}, {0, 2, 4, 1}, {0, 6, 4, 3}, {1, 0, 4, 1},
		{1, 5, 4, 3}, {4, 6, 4, 5}, {4, 1, 4, 3}, {5, 4, 4, 5}, {3, 6, 4, 3}, {6, 6, 4, 6}, {6, 8, 8, 7}, {8, 13, 8, 11},
		{0, 131070, 65536, 65535}, {131068, 131070, 65536, 131069}, {65535, 65534, 65536, 65535}, {65534, 65536, 65536, 65535},
	} {
		is(t, "Common", walk.Common(x[0], x[1], x[2]), x[3], x[:3]...)
		is(t, "Common", walk.Common(x[1], x[0], x[2]), x[3], x[1], x[0], x[2])
	}
}

// lowest tells the lowest node of the spots of a tree above both x and y, by marking all above x.
func lowest(l []spot, x, y int) int {
	marked := map[int]int{}
	for ; x != none; x = l[x].parent {
		marked[x]++
	}
	for marked[y] == 0 {
		y = l[y].parent
	}
	return y
}

// beneath tells whether x is y or beneath it, by climbing from x.
func beneath(l []spot, x, y int) bool {
	for x != y && x != none {
		x = l[x].parent
	}
	return x == y
}

func TestP143OfAllPairs(t *testing.T) {
	for _, n := range []int{1, 2, 4, 8, 16, 32, 64} {
		l := grown(n)
		for x := range l {
			for y := range l {
				is(t, "Common", walk.Common(x, y, n), lowest(l, x, y), x, y, n)
				if got, want := walk.Under(x, y), beneath(l, x, y); got != want {
					t.Fatalf("Under of %d and %d: %v, not %v", x, y, got, want)
				}
			}
		}
	}
}

func TestP143OfGreatTrees(t *testing.T) {
	r := rand.New(rand.NewSource(143))
	for _, n := range sizes()[7:] {
		l := grown(n)
		for range 2000 {
			x, y := r.Intn(len(l)), r.Intn(len(l))
			is(t, "Common", walk.Common(x, y, n), lowest(l, x, y), x, y, n)
			for z := x; z != none; z = l[z].parent {
				if !walk.Under(x, z) || (x != z && walk.Under(z, x)) {
					t.Fatalf("%d is beneath %d", x, z)
				}
				is(t, "Common", walk.Common(x, z, n), z, x, z, n)
			}
			if got, want := walk.Under(x, y), beneath(l, x, y); got != want {
				t.Fatalf("Under of %d and %d: %v, not %v", x, y, got, want)
			}
		}
	}
}

func TestP143CommonOfNone(t *testing.T) {
	for _, n := range sizes() {
		for _, x := range outside(n) {
			for _, y := range []int{0, n - 1, 2*n - 2} {
				is(t, "Common", walk.Common(x, y, n), none, x, y, n)
				is(t, "Common", walk.Common(y, x, n), none, y, x, n)
			}
			is(t, "Common", walk.Common(x, x, n), none, x, x, n)
		}
	}
	for _, n := range unfit() {
		for _, x := range []int{-1, 0, 1, 2, 3, 65535, 131070, n - 1} {
			is(t, "Common", walk.Common(x, x, n), none, x, x, n)
			is(t, "Common", walk.Common(0, x, n), none, 0, x, n)
			is(t, "Common", walk.Common(x, 0, n), none, x, 0, n)
		}
	}
}

func TestP143UnderWrittenOut(t *testing.T) {
	for _, x := range []struct {
		x, y int
		want bool
	}{
		{0, 0, true}, {0, 1, true}, {1, 0, false}, {2, 1, true}, {1, 2, false}, {3, 1, false}, {0, 3, true}, {6, 3, true},
		{7, 3, false}, {3, 7, true}, {8, 3, false}, {4, 5, true}, {6, 5, true}, {3, 5, false}, {7, 5, false}, {0, 2, false},
		{131070, 65535, true}, {0, 65535, true}, {65535, 65535, true}, {131070, 131069, true}, {131067, 131069, false},
		{131070, 131070, true}, {65536, 98303, true}, {65535, 98303, false}, {65534, 98303, false},
	} {
		if got := walk.Under(x.x, x.y); got != x.want {
			t.Errorf("Under of %d and %d: %v, not %v", x.x, x.y, got, x.want)
		}
	}
}

func TestP143UnderOfNoNode(t *testing.T) {
	for _, x := range outside(mostLeaves) {
		for _, y := range append([]int{0, 1, 3, 65535, 131069, 131070}, outside(mostLeaves)...) {
			if walk.Under(x, y) || walk.Under(y, x) {
				t.Errorf("one of %d and %d is beneath the other one", x, y)
			}
		}
	}
}
