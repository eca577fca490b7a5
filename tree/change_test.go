package tree_test

import (
	"math/bits"
	"slices"
	"testing"

	"ratline/api"
	"ratline/tree"
)

// addedByWords tells a tree with a leaf more, and its place.
func addedByWords(t []api.Node, l api.Leaf) ([]api.Node, int) {
	i := (len(t) + 1) / 2
	for k := i - 1; k >= 0; k-- {
		if t[2*k].Kind == 0 {
			i = k
		}
	}
	out := fresh(t)
	if 2*i > len(t) {
		out = make([]api.Node, 2*len(t)+1)
		copy(out, fresh(t))
	}
	out[2*i] = freshNode(api.Node{Kind: 1, Leaf: l})
	for _, x := range above(out, i) {
		if out[x].Kind == 2 {
			late := append(out[x].Parent.Late, i)
			slices.Sort(late)
			out[x].Parent.Late = late
		}
	}
	return out, i
}

// updatedByWords tells a tree with another leaf of a member.
func updatedByWords(t []api.Node, i int, l api.Leaf) []api.Node {
	out := fresh(t)
	out[2*i] = freshNode(api.Node{Kind: 1, Leaf: l})
	for _, x := range above(t, i) {
		out[x] = api.Node{}
	}
	return out
}

// removedByWords tells a tree without a member: its last member's place tells
// how great it is.
func removedByWords(t []api.Node, i int) []api.Node {
	out := fresh(t)
	out[2*i] = api.Node{}
	for _, x := range above(t, i) {
		out[x] = api.Node{}
	}
	l := membersByWords(out)
	n := 1 << bits.Len(uint(l[len(l)-1]))
	return out[:2*n-1]
}

// comers tells leaves of each source, at their edges too.
func comers() []api.Leaf {
	l := []api.Leaf{aLeaf("eve"), aLeaf("of a package"), aLeaf("of an update"), aLeaf("x"), aLeaf("without a parent's hash")}
	l[1].Source, l[1].Parent = 1, nil
	l[2].Source, l[2].Parent = 2, []byte{}
	l[3].Ident = random(5, 64)
	l[4].Parent = nil
	return l
}

func isTree(t *testing.T, what string, got, want []api.Node, e api.Err) {
	t.Helper()
	if e != api.OK || !alike(got, want) {
		t.Errorf("%s: %s, %v, not %s", what, drawing(got), e, drawing(want))
	}
}

func fails(t *testing.T, what string, got []api.Node, e, want api.Err) {
	t.Helper()
	if e != want || len(got) != 0 {
		t.Errorf("%s: %s, %v, not %v", what, drawing(got), e, want)
	}
}

func addFails(t *testing.T, what string, x []api.Node, l api.Leaf, want api.Err) {
	t.Helper()
	got, i, e := tree.Add(x, l)
	fails(t, "Add, "+what, got, e, want)
	if i != 0 {
		t.Errorf("Add, %s: at %d", what, i)
	}
}

func updateFails(t *testing.T, what string, x []api.Node, i int, l api.Leaf, want api.Err) {
	t.Helper()
	got, e := tree.Update(x, i, l)
	fails(t, "Update, "+what, got, e, want)
}

func removeFails(t *testing.T, what string, x []api.Node, i int, want api.Err) {
	t.Helper()
	got, e := tree.Remove(x, i)
	fails(t, "Remove, "+what, got, e, want)
}

func TestP172AsWords(t *testing.T) {
	for k, x := range rightTrees() {
		before := fresh(x)
		l := comers()[k%len(comers())]
		want, at := addedByWords(x, l)
		got, i, e := tree.Add(x, l)
		isTree(t, "Add", got, want, e)
		if i != at {
			t.Errorf("Add to %s: at %d", drawing(x), i)
		}
		members := membersByWords(x)
		for i := range (len(x) + 1) / 2 {
			switch {
			case x[2*i].Kind == 0:
				updateFails(t, "a blank one", x, i, l, api.None)
				removeFails(t, "a blank one", x, i, api.None)
				continue
			case len(members) == 1:
				removeFails(t, "the only one", x, i, api.Arg)
			default:
				got, e := tree.Remove(x, i)
				isTree(t, "Remove", got, removedByWords(x, i), e)
			}
			got, e := tree.Update(x, i, l)
			isTree(t, "Update", got, updatedByWords(x, i, l), e)
		}
		if !alike(x, before) {
			t.Fatalf("changed to %s", drawing(x))
		}
	}
}

func TestP172AddWrittenOut(t *testing.T) {
	eve := api.Node{Kind: 1, Leaf: aLeaf("eve")}
	for _, x := range []struct {
		what string
		tree []api.Node
		want []api.Node
		at   int
	}{
		{"of one", some(1, 0), with(some(2, 0), 2, eve), 1},
		{"of two", some(2, 0, 1), with(some(4, 0, 1), 4, eve), 2},
		{"to the first of two blank ones", some(4, 0, 3), with(some(4, 0, 3), 2, eve), 1},
		{"to the first place", some(4, 1, 3), with(some(4, 1, 3), 0, eve), 0},
		{"to the last place", some(4, 0, 1, 2), with(some(4, 0, 1, 2), 6, eve), 3},
		{"beneath parents", with(with(some(4, 0, 2, 3), 1, aParent(0)), 3, aParent(0, 3)),
			with(with(with(some(4, 0, 2, 3), 1, aParent(0, 1)), 3, aParent(0, 1, 3)), 2, eve), 1},
		{"ahead of all that are late", with(with(some(4, 1, 2, 3), 1, aParent()), 3, aParent(2, 3)),
			with(with(with(some(4, 1, 2, 3), 1, aParent(0)), 3, aParent(0, 2, 3)), 0, eve), 0},
		{"beneath one of them", with(with(some(4, 0, 1, 3), 1, aParent(1)), 5, aParent(3)),
			with(with(with(some(4, 0, 1, 3), 1, aParent(1)), 5, aParent(2, 3)), 4, eve), 2},
		{"behind all that are late", with(some(4, 0, 1, 2), 3, aParent(0, 1)), with(with(some(4, 0, 1, 2), 3, aParent(0, 1, 3)), 6, eve), 3},
		{"made twice as great, parents stay", with(some(2, 0, 1), 1, aParent(1)), with(with(some(4, 0, 1), 1, aParent(1)), 4, eve), 2},
	} {
		got, i, e := tree.Add(x.tree, eve.Leaf)
		isTree(t, "Add, "+x.what, got, x.want, e)
		if i != x.at {
			t.Errorf("Add, %s: at %d", x.what, i)
		}
	}
}

// A parent may be above nobody: who is added there is late of it.
func TestP172AddBeneathAParentOfNobody(t *testing.T) {
	got, i, e := tree.Add(with(some(4, 3), 1, aParent()), aLeaf("eve"))
	isTree(t, "Add", got, with(with(some(4, 3), 1, aParent(0)), 0, aMember("eve")), e)
	if i != 0 {
		t.Errorf("Add: at %d", i)
	}
}

func TestP172AddGrows(t *testing.T) {
	x := some(1, 0)
	for n := 1; n < 70; n++ {
		y, i, e := tree.Add(x, aLeaf("eve"))
		size := 1 << bits.Len(uint(n))
		if e != api.OK || i != n || len(y) != 2*size-1 || len(tree.Members(y)) != n+1 {
			t.Fatalf("the %dth: %d nodes, at %d, %v", n, len(y), i, e)
		}
		x = y
	}
}

func TestP172AddToTheGreatest(t *testing.T) {
	full := wholly(mostLeaves)
	addFails(t, "to 65536 leaves", full, aLeaf("eve"), api.Large)
	x := wholly(mostLeaves / 2)
	got, i, e := tree.Add(x, aLeaf("eve"))
	if e != api.OK || i != mostLeaves/2 || len(got) != 2*mostLeaves-1 || !tree.Right(got) {
		t.Errorf("Add to 32768 leaves: %d nodes, at %d, %v", len(got), i, e)
	}
	full[2*mostLeaves-4] = api.Node{}
	got, i, e = tree.Add(full, aLeaf("eve"))
	if e != api.OK || i != mostLeaves-2 || len(got) != 2*mostLeaves-1 || string(got[2*i].Leaf.Ident) != "eve" {
		t.Errorf("Add to 65535 leaves: %d nodes, at %d, %v", len(got), i, e)
	}
	full = wholly(mostLeaves)
	addFails(t, "a wrong leaf to 65536 leaves", full, api.Leaf{}, api.Form)
	full[1].Kind = 1
	addFails(t, "a wrong leaf to 65536 leaves of a wrong tree", full, api.Leaf{}, api.Tree)
}

func TestP172UpdateWrittenOut(t *testing.T) {
	eve := aMember("eve")
	x := with(with(with(some(4, 0, 1, 3), 1, aParent(1)), 5, aParent(3)), 3, aParent(1, 3))
	got, e := tree.Update(x, 0, eve.Leaf)
	isTree(t, "Update of 0", got, with(with(some(4, 0, 1, 3), 5, aParent(3)), 0, eve), e)
	got, e = tree.Update(x, 1, eve.Leaf)
	isTree(t, "Update of 1", got, with(with(some(4, 0, 1, 3), 5, aParent(3)), 2, eve), e)
	got, e = tree.Update(x, 3, eve.Leaf)
	isTree(t, "Update of 3", got, with(with(some(4, 0, 1, 3), 1, aParent(1)), 6, eve), e)
	got, e = tree.Update(some(1, 0), 0, eve.Leaf)
	isTree(t, "Update of the only one", got, []api.Node{eve}, e)
}

func TestP172RemoveWrittenOut(t *testing.T) {
	x := with(with(with(some(4, 0, 1, 3), 1, aParent(1)), 5, aParent(3)), 3, aParent(1, 3))
	got, e := tree.Remove(x, 0)
	isTree(t, "Remove of 0", got, with(some(4, 1, 3), 5, aParent(3)), e)
	got, e = tree.Remove(x, 3)
	isTree(t, "Remove of 3", got, with(some(2, 0, 1), 1, aParent(1)), e)
	got, e = tree.Remove(some(16, 0, 15), 15)
	isTree(t, "Remove of the last of two", got, some(1, 0), e)
	got, e = tree.Remove(some(16, 1, 15), 15)
	isTree(t, "Remove beside 1", got, some(2, 1), e)
	got, e = tree.Remove(some(16, 4, 15), 15)
	isTree(t, "Remove beside 4", got, some(8, 4), e)
	got, e = tree.Remove(some(16, 8, 15), 15)
	isTree(t, "Remove beside 8", got, some(16, 8), e)
	got, e = tree.Remove(some(16, 0, 15), 0)
	isTree(t, "Remove of the first of two", got, some(16, 15), e)
	// A parent above nobody doesn't keep the right half.
	got, e = tree.Remove(with(some(8, 0, 2, 7), 9, aParent()), 7)
	isTree(t, "Remove beside a parent of nobody", got, some(4, 0, 2), e)
	got, e = tree.Remove(with(with(some(8, 0, 2, 7), 5, aParent(2)), 1, aParent()), 7)
	isTree(t, "Remove, parents stay", got, with(with(some(4, 0, 2), 5, aParent(2)), 1, aParent()), e)
}

func TestP172RemoveOfTheGreatest(t *testing.T) {
	x := make([]api.Node, 2*mostLeaves-1)
	x[0], x[2*mostLeaves-2] = aMember("ada"), aMember("bob")
	got, e := tree.Remove(x, mostLeaves-1)
	isTree(t, "Remove of the last of two", got, []api.Node{aMember("ada")}, e)
	got, e = tree.Remove(x, 0)
	if e != api.OK || len(got) != len(x) || len(tree.Members(got)) != 1 {
		t.Errorf("Remove of the first of two: %d nodes, %v", len(got), e)
	}
	got, e = tree.Remove(wholly(mostLeaves), mostLeaves-1)
	if e != api.OK || len(got) != len(x) || len(tree.Members(got)) != mostLeaves-1 {
		t.Errorf("Remove of one of 65536: %d nodes, %v", len(got), e)
	}
}

func TestP172OrderOfErrors(t *testing.T) {
	x := some(4, 0, 1, 3)
	for _, l := range wrongLeaves() {
		addFails(t, "a wrong leaf", x, l, api.Form)
		addFails(t, "a wrong leaf to a full tree", some(2, 0, 1), l, api.Form)
		updateFails(t, "a wrong leaf", x, 1, l, api.Form)
		updateFails(t, "a wrong leaf of no member", x, 2, l, api.Form)
		updateFails(t, "a wrong leaf beyond the tree", x, 4, l, api.Form)
	}
	for _, i := range append(notPlaces(4), 2, 4, 5, 6) {
		updateFails(t, "of no member", x, i, aLeaf("eve"), api.None)
		removeFails(t, "of no member", x, i, api.None)
	}
	one := some(4, 3)
	removeFails(t, "of no member beside the only one", one, 0, api.None)
	removeFails(t, "of the only one", one, 3, api.Arg)
	removeFails(t, "of one", some(1, 0), 0, api.Arg)
	removeFails(t, "beyond one", some(1, 0), 1, api.None)
}

func TestP172WrongTrees(t *testing.T) {
	for _, x := range wrongTrees() {
		before := fresh(x.tree)
		for _, l := range append(wrongLeaves(), aLeaf("eve")) {
			addFails(t, x.what, x.tree, l, api.Tree)
			for _, i := range []int{-1, 0, 1, 3, 4} {
				updateFails(t, x.what, x.tree, i, l, api.Tree)
			}
		}
		for _, i := range append(notPlaces(4), 0, 1, 3, 4) {
			removeFails(t, x.what, x.tree, i, api.Tree)
		}
		if !alike(x.tree, before) {
			t.Errorf("%s: changed", x.what)
		}
	}
}

// makes tells what is made of a tree and a leaf, of a member or not.
func makes(x []api.Node, i int, l api.Leaf) [][]api.Node {
	a, _, _ := tree.Add(x, l)
	u, _ := tree.Update(x, i, l)
	r, _ := tree.Remove(x, i)
	return [][]api.Node{a, u, r}
}

func TestP172NewMemory(t *testing.T) {
	for k, untouched := range rightTrees() {
		i := k % ((len(untouched) + 1) / 2)
		x, l := fresh(untouched), freshNode(aMember("eve")).Leaf
		before := makes(x, i, l)
		for _, made := range makes(x, i, l) {
			standsApart(t, "what is made", made)
			spoil(made)
		}
		if !alike(x, untouched) || !alikeNodes(api.Node{Leaf: l}, api.Node{Leaf: aLeaf("eve")}) {
			t.Fatalf("what is made of %s shares memory with it, or the leaf", drawing(untouched))
		}
		for at, made := range makes(x, i, l) {
			if !alike(made, before[at]) {
				t.Fatalf("what is made of %s shares memory with what was made", drawing(untouched))
			}
		}
		want := makes(untouched, i, aLeaf("eve"))
		spoil(x)
		spoil([]api.Node{{Leaf: l}})
		for at := range before {
			if !alike(before[at], want[at]) {
				t.Fatalf("what was made of %s keeps it, or the leaf", drawing(untouched))
			}
		}
	}
}

// A list that is handed in may have room behind it, which is somebody else's.
func TestP172RoomBehindStays(t *testing.T) {
	room := make([]int, 8)
	x := with(some(4, 0, 1, 3), 3, aParent(room[:0]...))
	x[3].Parent.Late = append(room[:0:8], 1, 3)
	roomy := append(make([]api.Node, 0, 16), x...)
	if _, _, e := tree.Add(roomy, aLeaf("eve")); e != api.OK {
		t.Fatal(e)
	}
	if !slices.Equal(room, []int{1, 3, 0, 0, 0, 0, 0, 0}) {
		t.Errorf("a Late's room: %v", room)
	}
	full := append(make([]api.Node, 0, 16), some(2, 0, 1)...)
	if _, _, e := tree.Add(full, aLeaf("eve")); e != api.OK {
		t.Fatal(e)
	}
	for i, n := range full[3:cap(full)] {
		if !alikeNodes(n, api.Node{}) {
			t.Errorf("a tree's room changed at %d", i)
		}
	}
}

func BenchmarkAddToAGreatTree(b *testing.B) {
	x := wholly(mostLeaves / 2)
	for range b.N {
		tree.Add(x, x[0].Leaf)
	}
}
