package plan_test

import (
	"math/rand"
	"testing"

	"ratline/plan"
)

func TestP153GapWrittenOut(t *testing.T) {
	for _, x := range [][4]int{
		{0, 0, 1, 0}, {0, 2, 2, 4}, {0, 1, 2, 1}, {1, 1, 2, 0}, {0, 6, 4, 8}, {0, 2, 4, 4}, {0, 4, 4, 4}, {2, 4, 4, 8},
		{3, 0, 4, 2}, {1, 5, 4, 4}, {1, 6, 4, 5}, {0, 14, 8, 40}, {7, 14, 8, 10}, {6, 8, 8, 8}, {3, 11, 8, 16},
		{0, 131070, 65536, 520200}, {65534, 65536, 65536, 260104}, {0, 65535, 65536, 130050}, {131068, 131070, 65536, 4},
		{32767, 98303, 65536, 65536}, {0, 65534, 32768, 324616},
	} {
		g, ok := plan.Gap(x[0], x[1], x[2])
		is(t, "Gap", g, ok, x[3], x[:3]...)
		g, ok = plan.Gap(x[1], x[0], x[2])
		is(t, "Gap", g, ok, x[3], x[1], x[0], x[2])
	}
}

func TestP153GapOfAllPairs(t *testing.T) {
	for _, n := range sizes()[:8] {
		l := grown(n)
		for x, p := range l {
			for y, q := range l {
				g, ok := plan.Gap(x, y, n)
				is(t, "Gap", g, ok, gap(p, q), x, y, n)
			}
		}
	}
}

func TestP153GapOfGreatTrees(t *testing.T) {
	r := rand.New(rand.NewSource(153))
	for _, n := range sizes()[8:] {
		l := grown(n)
		for range 5000 {
			x, y := r.Intn(len(l)), r.Intn(len(l))
			g, ok := plan.Gap(x, y, n)
			is(t, "Gap", g, ok, gap(l[x], l[y]), x, y, n)
		}
	}
}

func TestP153GapOfNone(t *testing.T) {
	for _, n := range sizes() {
		for _, x := range outside(n) {
			for _, y := range []int{0, n - 1, 2*n - 2, x} {
				g, ok := plan.Gap(x, y, n)
				isNone(t, "Gap", g, ok, x, y, n)
				g, ok = plan.Gap(y, x, n)
				isNone(t, "Gap", g, ok, y, x, n)
			}
		}
	}
	for _, n := range unfit() {
		for _, x := range []int{-1, 0, 1, 2, 3, 65535, 131070, n - 1} {
			g, ok := plan.Gap(x, x, n)
			isNone(t, "Gap", g, ok, x, x, n)
			g, ok = plan.Gap(0, x, n)
			isNone(t, "Gap", g, ok, 0, x, n)
			g, ok = plan.Gap(x, 0, n)
			isNone(t, "Gap", g, ok, x, 0, n)
		}
	}
}
