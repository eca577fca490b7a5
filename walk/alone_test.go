package walk_test

import (
	"math"
	"slices"
	"testing"

	"ratline/walk"
)

func TestP141FitsOfAll(t *testing.T) {
	for n := -70000; n <= 140000; n++ {
		if got, want := walk.Fits(n), slices.Contains(sizes(), n); got != want {
			t.Fatalf("Fits of %d: %v, not %v", n, got, want)
		}
	}
}

func TestP141FitsOfWrong(t *testing.T) {
	for _, n := range unfit() {
		if walk.Fits(n) {
			t.Errorf("%d fits", n)
		}
	}
	for bit := 17; bit < 64; bit++ {
		if walk.Fits(1 << uint(bit)) {
			t.Errorf("2 to the power of %d fits", bit)
		}
	}
}

func TestP141Root(t *testing.T) {
	for _, n := range sizes() {
		is(t, "Root", walk.Root(n), n-1, n)
	}
	for _, n := range unfit() {
		is(t, "Root", walk.Root(n), none, n)
	}
}

func TestP141LevelWrittenOut(t *testing.T) {
	for _, x := range [][2]int{
		{0, 0}, {1, 1}, {2, 0}, {3, 2}, {4, 0}, {5, 1}, {6, 0}, {7, 3}, {8, 0}, {9, 1}, {10, 0}, {11, 2}, {12, 0}, {13, 1},
		{14, 0}, {15, 4}, {65534, 0}, {65535, 16}, {65536, 0}, {131069, 1}, {131070, 0}, {98303, 15}, {32767, 15}, {131067, 2},
	} {
		is(t, "Level", walk.Level(x[0]), x[1], x[0])
	}
}

func TestP141ChildrenWrittenOut(t *testing.T) {
	for _, x := range [][3]int{
		{0, none, none}, {1, 0, 2}, {2, none, none}, {3, 1, 5}, {5, 4, 6}, {7, 3, 11}, {9, 8, 10}, {11, 9, 13}, {13, 12, 14},
		{65535, 32767, 98303}, {131069, 131068, 131070}, {131070, none, none},
	} {
		is(t, "Left", walk.Left(x[0]), x[1], x[0])
		is(t, "Right", walk.Right(x[0]), x[2], x[0])
	}
}

func TestP141OfAll(t *testing.T) {
	for x, s := range grown(mostLeaves) {
		is(t, "Level", walk.Level(x), s.level, x)
		is(t, "Left", walk.Left(x), s.left, x)
		is(t, "Right", walk.Right(x), s.right, x)
		first, last := walk.Span(x)
		is(t, "the first of Span", first, s.first, x)
		is(t, "the last of Span", last, s.last, x)
	}
}

func TestP141SpanWrittenOut(t *testing.T) {
	for _, x := range [][3]int{
		{0, 0, 0}, {1, 0, 1}, {2, 1, 1}, {3, 0, 3}, {5, 2, 3}, {6, 3, 3}, {7, 0, 7}, {11, 4, 7}, {65535, 0, 65535},
		{98303, 32768, 65535}, {131069, 65534, 65535}, {131070, 65535, 65535},
	} {
		first, last := walk.Span(x[0])
		are(t, "Span", []int{first, last}, x[1:], x[0])
	}
}

func TestP141OfNoNode(t *testing.T) {
	for _, x := range outside(mostLeaves) {
		is(t, "Level", walk.Level(x), none, x)
		is(t, "Left", walk.Left(x), none, x)
		is(t, "Right", walk.Right(x), none, x)
		first, last := walk.Span(x)
		are(t, "Span", []int{first, last}, []int{none, none}, x)
	}
	for bit := range 64 {
		for _, x := range []int{-1 << bit, -1<<bit - 1, math.MaxInt - 1<<bit} {
			if x >= 0 && x <= lastNode {
				continue
			}
			is(t, "Level", walk.Level(x), none, x)
		}
	}
}
