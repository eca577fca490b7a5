package plan_test

import (
	"math"
	"math/rand"
	"testing"

	"ratline/plan"
)

func TestP153TurnWrittenOut(t *testing.T) {
	for _, x := range [][4]int{
		{0, 1, 1, 0}, {0, 1, -7, 0}, {0, 2, 0, 0}, {0, 2, 2, 2}, {2, 2, -2, 0}, {1, 2, 1, 1},
		{0, 4, 0, 0}, {0, 4, 1, 2}, {0, 4, 2, 6}, {0, 4, 3, 4}, {0, 4, 4, 0}, {0, 4, 5, 2}, {0, 4, -1, 4}, {0, 4, -2, 6},
		{0, 4, -3, 2}, {0, 4, -4, 0}, {2, 4, 1, 6}, {6, 4, 1, 4}, {4, 4, 1, 0}, {3, 4, 1, 3}, {3, 4, -1, 3}, {1, 4, 2, 5},
		{1, 4, 4, 1}, {14, 8, 2, 0}, {14, 8, 6, 0}, {2, 8, 1, 8}, {8, 8, 1, 12}, {12, 8, -1, 8},
		{0, 65536, 1, 43690}, {131070, 65536, 1, 87380}, {0, 65536, 2, 131070}, {65535, 65536, 3, 65535},
	} {
		y, ok := plan.Turn(x[0], x[1], x[2])
		is(t, "Turn", y, ok, x[3], x[:3]...)
	}
	for _, x := range [][3]int{
		{0, 2, 1}, {0, 2, -1}, {2, 2, 3}, {1, 4, 1}, {1, 4, 3}, {5, 4, -1}, {14, 8, 1}, {14, 8, -1}, {3, 8, 1}, {11, 8, 3},
		{32767, 65536, 1}, {98303, 65536, -1}, {0, 32768, 1},
	} {
		y, ok := plan.Turn(x[0], x[1], x[2])
		isNone(t, "Turn", y, ok, x[:]...)
	}
}

// turns asks for all turns of the node x, of which the points are told by l and the nodes at them by m.
func turns(t *testing.T, l []point, m map[point]int, x, n int) {
	t.Helper()
	p := l[x]
	for q := range 4 {
		for _, quarters := range []int{q, q + 4, q + 8, q - 4, q - 8, math.MinInt + q, math.MaxInt - 3 + q, 1<<32 + q} {
			y, ok := plan.Turn(x, n, quarters)
			if want, there := m[p]; there {
				is(t, "Turn", y, ok, want, x, n, quarters)
			} else {
				isNone(t, "Turn", y, ok, x, n, quarters)
			}
		}
		p = p.turned()
	}
}

func TestP153TurnOfAll(t *testing.T) {
	for _, n := range sizes()[:11] {
		l := grown(n)
		m := standing(l)
		for x := range l {
			turns(t, l, m, x, n)
		}
	}
}

func TestP153TurnOfGreatTrees(t *testing.T) {
	r := rand.New(rand.NewSource(1533))
	for _, n := range sizes()[11:] {
		l := grown(n)
		m := standing(l)
		for range 1000 {
			turns(t, l, m, r.Intn(len(l)), n)
		}
		turns(t, l, m, 0, n)
		turns(t, l, m, n-1, n)
		turns(t, l, m, 2*n-2, n)
	}
}

func TestP153TurnOfNone(t *testing.T) {
	for _, q := range []int{math.MinInt, -5, -1, 0, 1, 2, 3, 4, math.MaxInt} {
		for _, n := range sizes() {
			for _, x := range outside(n) {
				y, ok := plan.Turn(x, n, q)
				isNone(t, "Turn", y, ok, x, n, q)
			}
		}
		for _, n := range unfit() {
			for _, x := range []int{-1, 0, 1, 2, 3, 65535, 131070, n - 1} {
				y, ok := plan.Turn(x, n, q)
				isNone(t, "Turn", y, ok, x, n, q)
			}
		}
	}
}
