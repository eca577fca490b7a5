package tree_test

import (
	"fmt"
	"math/rand"
	"slices"
	"testing"

	"ratline/api"
	"ratline/tree"
)

// justOne asks that of each node above a member just one that it resolves to
// is the member's leaf, or is above it and doesn't have it in its Late.
func justOne(t *testing.T, x []api.Node) {
	t.Helper()
	for _, i := range tree.Members(x) {
		for _, y := range above(x, i) {
			count := 0
			for _, r := range tree.Resolve(x, y) {
				if r == 2*i || under(2*i, r) && !slices.Contains(x[r].Parent.Late, i) {
					count++
				}
			}
			if count != 1 {
				t.Fatalf("of %d %d nodes are for %d: %s", y, count, i, drawing(x))
			}
		}
	}
}

func TestP175JustOne(t *testing.T) {
	for _, x := range rightTrees() {
		justOne(t, x)
	}
}

// isMadeRight asks that what was made of a tree that is right is right too.
func isMadeRight(t *testing.T, what string, of, made []api.Node) {
	t.Helper()
	// The words are slow of greater trees.
	if !tree.Right(made) || len(made) < 32 && !rightByWords(made) {
		t.Fatalf("%s of %s isn't right: %s", what, drawing(of), drawing(made))
	}
}

func TestP175WhatIsMadeIsRight(t *testing.T) {
	l := rightTrees()
	s := rand.New(rand.NewSource(4))
	for range 100 {
		l = append(l, drawn(s, 1<<s.Intn(5)))
	}
	for _, x := range l {
		made, _, e := tree.Add(x, aLeaf("eve"))
		if e != api.OK {
			t.Fatalf("Add: %v", e)
		}
		isMadeRight(t, "Add", x, made)
		justOne(t, made)
		for _, i := range tree.Members(x) {
			made, e := tree.Update(x, i, aLeaf("eve"))
			if e != api.OK {
				t.Fatalf("Update: %v", e)
			}
			isMadeRight(t, "Update", x, made)
			if made, e = tree.Remove(x, i); e == api.OK {
				isMadeRight(t, "Remove", x, made)
			}
			if e == api.OK && len(x) < 16 {
				justOne(t, made)
			}
		}
		isMadeRight(t, "Copy", x, tree.Copy(x))
		b, _ := tree.Bytes(x)
		if got, e := tree.Of(b); e != api.OK || !tree.Same(got, x) {
			t.Fatalf("Of its bytes: %s, %v, not %s", drawing(got), e, drawing(x))
		}
	}
}

// renewed tells a tree in which a member's filtered path are new parents.
func renewed(x []api.Node, i int) []api.Node {
	out := fresh(x)
	for _, y := range above(x, i) {
		out[y] = api.Node{}
	}
	for _, y := range tree.Filtered(x, i) {
		out[y] = aParent()
	}
	return out
}

// A group's life: who comes, goes, and renews a path, with a list of the
// members beside it.
func TestP175Life(t *testing.T) {
	s := rand.New(rand.NewSource(5))
	for range 10 {
		x := some(1, 0)
		have := map[int]string{0: "member 0"}
		for step := range 120 {
			name := fmt.Sprint("of step ", step)
			l := tree.Members(x)
			i := l[s.Intn(len(l))]
			var e api.Err
			before := x
			switch what := s.Intn(8); {
			case what < 3:
				x, i, e = tree.Add(x, aLeaf(name))
				have[i] = name
			case what < 4:
				x, e = tree.Update(x, i, aLeaf(name))
				have[i] = name
			case what < 6 && len(l) > 1:
				x, e = tree.Remove(x, i)
				delete(have, i)
			default:
				x = renewed(x, i)
			}
			if e != api.OK {
				t.Fatalf("step %d: %v", step, e)
			}
			isMadeRight(t, "a step", before, x)
			justOne(t, x)
			areMembers(t, x, have)
		}
	}
}

// areMembers asks that just these leaves are a tree's members.
func areMembers(t *testing.T, x []api.Node, have map[int]string) {
	t.Helper()
	if l := tree.Members(x); len(l) != len(have) {
		t.Fatalf("members %v, not %v", l, have)
	}
	for i, name := range have {
		if l, ok := tree.Leaf(x, i); !ok || string(l.Ident) != name {
			t.Fatalf("Leaf of %d: %s, %v, not %s", i, l.Ident, ok, name)
		}
	}
}
