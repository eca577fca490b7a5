package tree_test

import (
	"testing"

	"ratline/api"
	"ratline/tree"
)

// anyTrees tells trees that are right, and many that aren't.
func anyTrees() [][]api.Node {
	l := [][]api.Node{nil, wrongNodes(), {{Kind: 9, Leaf: aLeaf("ada"), Parent: aParent(3, -1).Parent}}}
	for k, x := range rightTrees() {
		if k%5 == 0 {
			l = append(l, x)
		}
	}
	for _, x := range wrongTrees() {
		l = append(l, x.tree)
	}
	return l
}

func TestP174SameOfAll(t *testing.T) {
	l := anyTrees()
	for i, a := range l {
		for j, b := range l {
			if got := tree.Same(a, b); got != alike(a, b) {
				t.Errorf("Same of %d, %d: %v: %s, %s", i, j, got, drawing(a), drawing(b))
			}
		}
		if !tree.Same(a, fresh(a)) {
			t.Errorf("not the same as its copy: %s", drawing(a))
		}
	}
}

func TestP174SameNodeByNode(t *testing.T) {
	whole := drawnFull()
	for x := range whole {
		for _, n := range append(wrongNodes(), api.Node{}, aParent(9), aMember("bob")) {
			if other := with(whole, x, n); tree.Same(whole, other) || tree.Same(other, whole) {
				t.Errorf("the same with another node at %d", x)
			}
		}
	}
	for n := range whole {
		if tree.Same(whole, whole[:n]) || tree.Same(whole[:n], whole) {
			t.Errorf("the same as its first %d nodes", n)
		}
	}
	swapped := with(with(whole, 0, whole[2]), 2, whole[0])
	if tree.Same(whole, swapped) {
		t.Error("the same with two nodes swapped")
	}
	if blank := append(fresh(whole), make([]api.Node, len(whole)+1)...); tree.Same(whole, blank) {
		t.Error("the same as with blank nodes behind")
	}
}

// drawnFull tells a right tree without a blank node.
func drawnFull() []api.Node {
	t := some(4, 0, 1, 2, 3)
	t[1], t[3], t[5] = aParent(1), aParent(1), aParent(2, 3)
	return t
}

func TestP174EmptyIsEmpty(t *testing.T) {
	if !tree.Same(nil, []api.Node{}) || !tree.Same([]api.Node{}, nil) || !tree.Same(nil, nil) {
		t.Error("no nodes aren't the same as no nodes")
	}
	none := []byte{}
	empty := api.Node{
		Leaf:   api.Leaf{Box: none, Sign: none, Ident: none, Parent: none, Sig: none},
		Parent: api.Parent{Box: none, Hash: none, Late: []int{}},
	}
	if x := with(drawnFull(), 2, empty); !tree.Same(x, with(x, 2, api.Node{})) {
		t.Error("empty lists aren't the same as none")
	}
}

func TestP174Copy(t *testing.T) {
	for _, untouched := range anyTrees() {
		x := fresh(untouched)
		c := tree.Copy(x)
		if !alike(c, x) {
			t.Errorf("Copy of %s: %s", drawing(x), drawing(c))
		}
		standsApart(t, "Copy", c)
		spoil(c)
		if !alike(x, untouched) {
			t.Errorf("changed with its copy: %s", drawing(untouched))
		}
		c = tree.Copy(x)
		spoil(x)
		if !alike(c, untouched) {
			t.Errorf("a copy changed with %s", drawing(untouched))
		}
	}
}

func TestP174CopyOfTheGreatest(t *testing.T) {
	if x := wholly(2 * mostLeaves); !tree.Same(x, tree.Copy(x)) || tree.Same(x, tree.Copy(x)[1:]) {
		t.Error("Copy of 2^17 leaves isn't it")
	}
}
