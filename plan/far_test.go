package plan_test

import (
	"math/rand"
	"slices"
	"testing"

	"ratline/plan"
)

func TestP154FarWrittenOut(t *testing.T) {
	for _, x := range []struct {
		from int
		l    []int
		n    int
		want int
	}{
		{0, []int{0}, 1, 0},
		{0, []int{0, 0, 0}, 1, 0},
		{2, []int{2}, 2, 2},
		{0, []int{2, 6, 4, 6}, 4, 6},
		{0, []int{0, 1, 2}, 4, 2},
		{3, []int{0, 2, 4, 6}, 4, 0},
		{3, []int{6, 4, 2, 0}, 4, 6},
		{3, []int{1, 5, 4, 0}, 4, 4},
		{0, []int{4, 2}, 4, 4},
		{0, []int{2, 4}, 4, 2},
		{6, []int{6, 6, 5, 6}, 4, 5},
		{5, []int{5, 5}, 4, 5},
		{7, []int{3, 11, 7}, 8, 3},
		{7, []int{11, 3, 14, 0}, 8, 14},
		{65535, []int{131070, 0}, 65536, 131070},
		{131070, []int{65535, 0, 131068}, 65536, 0},
	} {
		y, ok := plan.Far(x.from, x.l, x.n)
		is(t, "Far", y, ok, x.want, append([]int{x.from, x.n}, x.l...)...)
	}
}

func TestP154FarOfSome(t *testing.T) {
	r := rand.New(rand.NewSource(154))
	for _, n := range sizes() {
		points := grown(n)
		for range 300 {
			from, l := r.Intn(2*n-1), make([]int, 1+r.Intn(12))
			for i := range l {
				l[i] = r.Intn(2*n - 1)
			}
			want := l[0]
			for _, x := range l {
				if gap(points[from], points[x]) > gap(points[from], points[want]) {
					want = x
				}
			}
			as := slices.Clone(l)
			y, ok := plan.Far(from, l, n)
			is(t, "Far", y, ok, want, append([]int{from, n}, l...)...)
			if !slices.Equal(l, as) {
				t.Fatalf("the list has changed from %v to %v", as, l)
			}
		}
	}
}

// Of a whole row of leaves that are as far, the first one counts, wherever it stands.
func TestP154FarTheFirstOfSeveral(t *testing.T) {
	corners := []int{0, 2, 4, 6}
	for range corners {
		y, ok := plan.Far(3, corners, 4)
		is(t, "Far", y, ok, corners[0], corners...)
		corners = append(corners[1:], corners[0])
	}
}

func TestP154FarOfNone(t *testing.T) {
	for _, n := range sizes() {
		for _, l := range [][]int{nil, {}} {
			y, ok := plan.Far(0, l, n)
			isNone(t, "Far of an empty list", y, ok, n)
		}
		for _, x := range outside(n) {
			y, ok := plan.Far(x, []int{0, n - 1, 2*n - 2}, n)
			isNone(t, "Far", y, ok, x, n)
			y, ok = plan.Far(x, nil, n)
			isNone(t, "Far of an empty list", y, ok, x, n)
			for _, l := range [][]int{{x}, {x, 0}, {0, x}, {0, x, 2*n - 2}, {2*n - 2, 0, x}} {
				y, ok = plan.Far(0, l, n)
				isNone(t, "Far", y, ok, append([]int{n}, l...)...)
			}
		}
	}
	for _, n := range unfit() {
		for _, x := range []int{-1, 0, 1, 2, 3, 65535, 131070, n - 1} {
			y, ok := plan.Far(x, []int{x}, n)
			isNone(t, "Far", y, ok, x, n)
			y, ok = plan.Far(0, []int{0, x}, n)
			isNone(t, "Far", y, ok, x, n)
		}
	}
}
