package walk_test

import (
	"slices"
	"testing"

	"ratline/walk"
)

func TestP142WrittenOut(t *testing.T) {
	for _, x := range []struct {
		x, n, parent, sibling int
		path, copath          []int
	}{
		{0, 1, none, none, nil, nil},
		{0, 2, 1, 2, []int{1}, []int{2}},
		{2, 2, 1, 0, []int{1}, []int{0}},
		{1, 2, none, none, nil, nil},
		{0, 4, 1, 2, []int{1, 3}, []int{2, 5}},
		{2, 4, 1, 0, []int{1, 3}, []int{0, 5}},
		{4, 4, 5, 6, []int{5, 3}, []int{6, 1}},
		{6, 4, 5, 4, []int{5, 3}, []int{4, 1}},
		{1, 4, 3, 5, []int{3}, []int{5}},
		{5, 4, 3, 1, []int{3}, []int{1}},
		{3, 4, none, none, nil, nil},
		{3, 8, 7, 11, []int{7}, []int{11}},
		{14, 8, 13, 12, []int{13, 11, 7}, []int{12, 9, 3}},
		{65535, 65536, none, none, nil, nil},
		{98303, 65536, 65535, 32767, []int{65535}, []int{32767}},
		{131069, 65536, 131067, 131065, []int{
			131067, 131063, 131055, 131039, 131007, 130943, 130815, 130559, 130047, 129023, 126975, 122879, 114687, 98303, 65535,
		}, []int{
			131065, 131059, 131047, 131023, 130975, 130879, 130687, 130303, 129535, 127999, 124927, 118783, 106495, 81919, 32767,
		}},
	} {
		is(t, "Parent", walk.Parent(x.x, x.n), x.parent, x.x, x.n)
		is(t, "Sibling", walk.Sibling(x.x, x.n), x.sibling, x.x, x.n)
		are(t, "Path", walk.Path(x.x, x.n), x.path, x.x, x.n)
		are(t, "Copath", walk.Copath(x.x, x.n), x.copath, x.x, x.n)
	}
}

// climbed tells the path and the copath that the spots of a tree have of the node x.
func climbed(l []spot, x int) (path, copath []int) {
	for ; l[x].parent != none; x = l[x].parent {
		path = append(path, l[x].parent)
		copath = append(copath, l[x].sibling)
	}
	return path, copath
}

func TestP142OfAll(t *testing.T) {
	for _, n := range sizes() {
		l := grown(n)
		for x, s := range l {
			path, copath := climbed(l, x)
			is(t, "Parent", walk.Parent(x, n), s.parent, x, n)
			is(t, "Sibling", walk.Sibling(x, n), s.sibling, x, n)
			are(t, "Path", walk.Path(x, n), path, x, n)
			are(t, "Copath", walk.Copath(x, n), copath, x, n)
		}
	}
}

// lonely asks that the node x has nothing above it in a tree of n leaves.
func lonely(t *testing.T, x, n int) {
	t.Helper()
	is(t, "Parent", walk.Parent(x, n), none, x, n)
	is(t, "Sibling", walk.Sibling(x, n), none, x, n)
	are(t, "Path", walk.Path(x, n), nil, x, n)
	are(t, "Copath", walk.Copath(x, n), nil, x, n)
}

func TestP142OfTheRoot(t *testing.T) {
	for _, n := range sizes() {
		lonely(t, n-1, n)
	}
}

func TestP142OfNoNode(t *testing.T) {
	for _, n := range sizes() {
		for _, x := range outside(n) {
			lonely(t, x, n)
		}
	}
}

func TestP142OfUnfit(t *testing.T) {
	for _, n := range unfit() {
		for _, x := range append([]int{0, 1, 2, 3, 4, 5, 65535, 98303, 131070, n - 1}, outside(8)...) {
			lonely(t, x, n)
		}
	}
}

// The answers are the caller's (R4).
func TestP142ListsAreNew(t *testing.T) {
	for _, f := range []func(x, n int) []int{walk.Path, walk.Copath} {
		a, b := f(4, 1024), f(4, 1024)
		want := slices.Clone(b)
		for i := range a {
			a[i] = -7
		}
		_ = append(a[:2], 1, 2, 3)
		are(t, "another list", b, want, 4, 1024)
		are(t, "the list, told again,", f(4, 1024), want, 4, 1024)
	}
}
