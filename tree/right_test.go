package tree_test

import (
	"math"
	"math/rand"
	"slices"
	"testing"

	"ratline/api"
	"ratline/tree"
)

// asWords asks Right of a tree, and tells what it is.
func asWords(t *testing.T, x []api.Node) bool {
	t.Helper()
	want := rightByWords(x)
	if got := tree.Right(x); got != want {
		t.Errorf("Right of %s: %v", drawing(x), got)
	}
	return want
}

// With k parents above it that aren't blank a member may be late in k + 1 ways:
// that tells how many trees are right.
func TestP171RightOfEachSmallTree(t *testing.T) {
	for n, want := range map[int]int{1: 1, 2: 8, 4: 718} {
		count := 0
		eachTree(n, func(x []api.Node) {
			if asWords(t, x) {
				count++
			}
		})
		if count != want {
			t.Errorf("%d trees of %d leaves are right, not %d", count, n, want)
		}
	}
}

func TestP171RightOfGreaterTrees(t *testing.T) {
	s := rand.New(rand.NewSource(2))
	right := 0
	for range 4000 {
		x := drawn(s, 8<<s.Intn(3))
		if !tree.Right(x) {
			t.Errorf("a tree that is right isn't: %s", drawing(x))
		}
		for range 1 + s.Intn(2) {
			change(s, x)
		}
		if asWords(t, x) {
			right++
		}
	}
	if right < 400 || right > 3600 {
		t.Errorf("%d of 4000 changed trees are right", right)
	}
}

// change makes another node of one of a tree.
func change(s *rand.Rand, t []api.Node) {
	x := s.Intn(len(t))
	switch late := t[x].Parent.Late; {
	case x%2 == 0 && t[x].Kind == 0:
		t[x] = aMember("bob")
	case t[x].Kind == 0:
		t[x] = aParent()
	case x%2 == 0 || s.Intn(6) == 0:
		t[x] = api.Node{}
	case len(late) > 0 && s.Intn(2) == 0:
		at := s.Intn(len(late))
		t[x].Parent.Late = slices.Delete(slices.Clone(late), at, at+1)
	default:
		late = append(slices.Clone(late), s.Intn(len(t)/2+1))
		slices.Sort(late)
		t[x].Parent.Late = slices.Compact(late)
	}
}

func TestP171WrittenOut(t *testing.T) {
	for _, x := range []struct {
		what string
		tree []api.Node
	}{
		{"one member", some(1, 0)},
		{"the second one of two", some(2, 1)},
		{"the last one of many", some(1024, 1023)},
		{"the first one of the right half", some(1024, 512)},
		{"a parent above blank leaves", with(some(4, 3), 1, aParent())},
		{"parents above one member", with(with(some(4, 3), 5, aParent()), 3, aParent())},
		{"all late everywhere", with(with(with(some(4, 0, 1, 2, 3), 1, aParent(0, 1)), 5, aParent(2, 3)), 3, aParent(0, 1, 2, 3))},
		{"late beneath, and not above", with(with(some(4, 0, 1, 2, 3), 1, aParent(1)), 3, aParent())},
		{"late above a blank one", with(some(4, 0, 1, 2, 3), 3, aParent(0, 2))},
		{"late beneath a blank one", with(some(4, 0, 1, 2, 3), 5, aParent(3))},
	} {
		if !tree.Right(x.tree) {
			t.Errorf("%s: not right", x.what)
		}
	}
}

func TestP171WrongTrees(t *testing.T) {
	for _, x := range wrongTrees() {
		if rightByWords(x.tree) {
			t.Errorf("%s: right by the words", x.what)
		}
		if tree.Right(x.tree) {
			t.Errorf("%s: right: %s", x.what, drawing(x.tree))
		}
		tellsNothing(t, x.what, x.tree)
	}
}

// tellsNothing asks that nothing is told of a tree that isn't right.
func tellsNothing(t *testing.T, what string, x []api.Node) {
	t.Helper()
	if l := tree.Members(x); len(l) != 0 {
		t.Errorf("%s: Members tells %v", what, l)
	}
	for _, i := range append(notPlaces(4), 0, 1, 2, 3, 4, 5, 6) {
		isNoMember(t, x, i)
		if l := tree.Resolve(x, i); len(l) != 0 {
			t.Errorf("%s: Resolve of %d tells %v", what, i, l)
		}
		if l := tree.Filtered(x, i); len(l) != 0 {
			t.Errorf("%s: Filtered of %d tells %v", what, i, l)
		}
	}
}

func isNoMember(t *testing.T, x []api.Node, i int) {
	t.Helper()
	if l, ok := tree.Leaf(x, i); ok || !alikeNodes(api.Node{Leaf: l}, api.Node{}) {
		t.Errorf("Leaf of %d of %s: %s, %v", i, drawing(x), short(l), ok)
	}
}

func TestP171GreatestTrees(t *testing.T) {
	x := wholly(mostLeaves)
	if !tree.Right(x) || len(tree.Members(x)) != mostLeaves {
		t.Error("the greatest tree isn't right")
	}
	if l := tree.Resolve(x, mostLeaves-1); len(l) != mostLeaves || l[mostLeaves-1] != 2*mostLeaves-2 {
		t.Errorf("it resolves to %d nodes", len(l))
	}
	all := make([]int, mostLeaves)
	for i := range all {
		all[i] = i
	}
	x[mostLeaves-1] = aParent(all...)
	if l := tree.Resolve(x, mostLeaves-1); !tree.Right(x) || len(l) != mostLeaves+1 || l[0] != mostLeaves-1 || l[mostLeaves] != 2*mostLeaves-2 {
		t.Errorf("with all late it resolves to %d nodes", len(l))
	}
	if l := tree.Filtered(x, 3); !slices.Equal(l, []int{5, 3, 7, 15, 31, 63, 127, 255, 511, 1023, 2047, 4095, 8191, 16383, 32767, 65535}) {
		t.Errorf("Filtered: %v", l)
	}
	x[2*mostLeaves-2] = api.Node{}
	if tree.Right(x) {
		t.Error("right, with one late that is blank")
	}
	x = wholly(2 * mostLeaves)
	if tree.Right(x) {
		t.Error("a tree of 2^17 leaves is right")
	}
	tellsNothing(t, "2^17 leaves", x)
}

func TestP171AsWords(t *testing.T) {
	for _, x := range rightTrees() {
		before := fresh(x)
		told(t, x)
		if !alike(x, before) {
			t.Fatalf("changed to %s", drawing(x))
		}
	}
}

// told asks what is told of a tree that is right.
func told(t *testing.T, x []api.Node) {
	t.Helper()
	n := (len(x) + 1) / 2
	if l := tree.Members(x); !slices.Equal(l, membersByWords(x)) {
		t.Errorf("Members of %s: %v", drawing(x), l)
	}
	for i := range n {
		want := x[2*i]
		if l, ok := tree.Leaf(x, i); ok != (want.Kind == 1) || !alikeNodes(api.Node{Leaf: l}, api.Node{Leaf: want.Leaf}) {
			t.Errorf("Leaf of %d of %s: %s, %v", i, drawing(x), short(l), ok)
		}
		if l := tree.Filtered(x, i); !slices.Equal(l, filteredByWords(x, i)) {
			t.Errorf("Filtered of %d of %s: %v", i, drawing(x), l)
		}
	}
	for y := range x {
		if l := tree.Resolve(x, y); !slices.Equal(l, resolvedByWords(x, y)) {
			t.Errorf("Resolve of %d of %s: %v", y, drawing(x), l)
		}
	}
	for _, i := range notPlaces(n) {
		isNoMember(t, x, i)
		if l, k := tree.Filtered(x, i), tree.Resolve(x, i); len(l)+len(k) != 0 {
			t.Errorf("of %d of %s: Filtered %v, Resolve %v", i, drawing(x), l, k)
		}
	}
	for i := n; i < 2*n-1; i++ {
		isNoMember(t, x, i)
		if l := tree.Filtered(x, i); len(l) != 0 {
			t.Errorf("Filtered of %d of %s: %v", i, drawing(x), l)
		}
	}
}

func TestP171ToldWrittenOut(t *testing.T) {
	is := func(what string, got []int, want ...int) {
		t.Helper()
		if !slices.Equal(got, want) {
			t.Errorf("%s: %v, not %v", what, got, want)
		}
	}
	x := some(1, 0)
	is("Members of one", tree.Members(x), 0)
	is("Resolve of one", tree.Resolve(x, 0), 0)
	is("Filtered of one", tree.Filtered(x, 0))

	x = some(8, 0, 1, 3, 6)
	is("Members", tree.Members(x), 0, 1, 3, 6)
	is("Resolve of the root", tree.Resolve(x, 7), 0, 2, 6, 12)
	is("Filtered of 0", tree.Filtered(x, 0), 1, 3, 7)
	is("Filtered of 3", tree.Filtered(x, 3), 3, 7)
	is("Filtered of the blank 2", tree.Filtered(x, 2), 5, 3, 7)
	is("Filtered of the blank 4", tree.Filtered(x, 4), 11, 7)
	is("Filtered of the blank 7", tree.Filtered(x, 7), 13, 7)
	is("Filtered of 6", tree.Filtered(x, 6), 7)

	x = with(x, 3, aParent(1, 3))
	is("Resolve of the root", tree.Resolve(x, 7), 3, 2, 6, 12)
	is("Resolve of its left child", tree.Resolve(x, 3), 3, 2, 6)
	is("Resolve of the one beneath", tree.Resolve(x, 1), 0, 2)
	is("Resolve of a blank leaf", tree.Resolve(x, 14))
	is("Resolve of a parent with nobody beneath", tree.Resolve(x, 9))
	is("Filtered of 6", tree.Filtered(x, 6), 7)

	// A parent without a member beneath it is something, too.
	x = with(x, 9, aParent())
	is("Resolve of a parent with nobody beneath", tree.Resolve(x, 9), 9)
	is("Resolve of the one above", tree.Resolve(x, 11), 9, 12)
	is("Filtered of 6", tree.Filtered(x, 6), 11, 7)
	x = with(x, 3, api.Node{})
	is("Resolve of the root", tree.Resolve(x, 7), 0, 2, 6, 9, 12)
}

func TestP171NewMemory(t *testing.T) {
	for _, untouched := range rightTrees() {
		x := fresh(untouched)
		for i := range (len(x) + 1) / 2 {
			l, _ := tree.Leaf(x, i)
			n := []api.Node{{Kind: 1, Leaf: l}}
			standsApart(t, "Leaf", n)
			spoil(n)
		}
		for y := range x {
			for _, l := range [][]int{tree.Members(x), tree.Resolve(x, y), tree.Filtered(x, min(y, len(x)/2))} {
				for k := range l[:cap(l)] {
					l[:cap(l)][k] ^= math.MinInt
				}
			}
		}
		if !alike(x, untouched) {
			t.Fatalf("what is told shares memory with %s", drawing(untouched))
		}
		l, ok := tree.Leaf(x, len(x)/2)
		spoil(x)
		if ok && !alikeNodes(api.Node{Leaf: l}, api.Node{Leaf: untouched[len(x)/2*2].Leaf}) {
			t.Fatalf("a leaf shares memory with %s", drawing(untouched))
		}
	}
}

func BenchmarkRightOfTheGreatest(b *testing.B) {
	x := wholly(mostLeaves)
	for range b.N {
		tree.Right(x)
	}
}
