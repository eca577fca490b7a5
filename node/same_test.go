package node_test

import (
	"testing"

	"ratline/api"
	"ratline/node"
)

// odd tells nodes that are right, and many that aren't.
func odd() []api.Node {
	l := rightNodes()
	for _, x := range wrongLeaves() {
		l = append(l, api.Node{Kind: 1, Leaf: x.leaf})
	}
	for _, p := range wrongParents() {
		l = append(l, api.Node{Kind: 2, Parent: p})
	}
	for _, at := range beyond() {
		l = append(l, api.Node{Kind: 2, Parent: aParent(at, 0, at)})
	}
	leaves, parents := fullFields()
	for i, x := range leaves {
		l = append(l, api.Node{Leaf: x}, api.Node{Kind: uint8(250 + i%6), Leaf: x, Parent: parents[i%len(parents)]})
	}
	return append(l, api.Node{Kind: 3}, api.Node{Kind: 255, Leaf: aLeaf(3), Parent: aParent(9, 8, 7)})
}

// others tells nodes that differ from one in one field each.
func others() []api.Node {
	var l []api.Node
	for _, put := range []func(n *api.Node){
		func(n *api.Node) { n.Kind = 1 },
		func(n *api.Node) { n.Kind = 254 },
		func(n *api.Node) { n.Leaf.Box[31] ^= 1 },
		func(n *api.Node) { n.Leaf.Box = n.Leaf.Box[:31] },
		func(n *api.Node) { n.Leaf.Box = nil },
		func(n *api.Node) { n.Leaf.Sign[0] ^= 128 },
		func(n *api.Node) { n.Leaf.Sign = append(n.Leaf.Sign, 0) },
		func(n *api.Node) { n.Leaf.Ident = []byte("adb") },
		func(n *api.Node) { n.Leaf.Ident = []byte("ad") },
		func(n *api.Node) { n.Leaf.Ident = nil },
		func(n *api.Node) { n.Leaf.Source = 0 },
		func(n *api.Node) { n.Leaf.Source = 2 },
		func(n *api.Node) { n.Leaf.Parent[5]++ },
		func(n *api.Node) { n.Leaf.Parent = nil },
		func(n *api.Node) { n.Leaf.Sig[63] ^= 1 },
		func(n *api.Node) { n.Leaf.Sig = n.Leaf.Sig[1:] },
		func(n *api.Node) { n.Leaf.Box, n.Leaf.Sign = n.Leaf.Sign, n.Leaf.Box },
		func(n *api.Node) { n.Parent.Box[0]++ },
		func(n *api.Node) { n.Parent.Box = nil },
		func(n *api.Node) { n.Parent.Hash[0]++ },
		func(n *api.Node) { n.Parent.Hash = n.Parent.Hash[:16] },
		func(n *api.Node) { n.Parent.Late[1]++ },
		func(n *api.Node) { n.Parent.Late[1] += 1 << 32 },
		func(n *api.Node) { n.Parent.Late = append(n.Parent.Late, 3) },
		func(n *api.Node) { n.Parent.Late = n.Parent.Late[:1] },
		func(n *api.Node) { n.Parent.Late = nil },
		func(n *api.Node) { n.Parent.Late = []int{2, 1} },
		func(n *api.Node) { n.Parent.Box, n.Parent.Hash = n.Parent.Hash, n.Parent.Box },
	} {
		n := full()
		put(&n)
		l = append(l, n)
	}
	return l
}

// full tells a node with all fields, which isn't right.
func full() api.Node {
	return api.Node{Kind: 2, Leaf: aLeaf(3), Parent: aParent(1, 2)}
}

func TestP163Same(t *testing.T) {
	for i, n := range others() {
		if node.Same(n, full()) || node.Same(full(), n) {
			t.Errorf("the same as the one with another field, %d", i)
		}
		if !node.Same(n, others()[i]) {
			t.Errorf("not the same as itself, %d", i)
		}
	}
	if !node.Same(full(), full()) || !node.Same(api.Node{}, api.Node{}) {
		t.Error("not the same as itself")
	}
}

func TestP163SameOfAll(t *testing.T) {
	l := odd()
	for i, a := range l {
		// A long Late makes this slow, and one or two of them suffice.
		for j := max(0, i-60); j < min(len(l), i+60); j++ {
			if got, want := node.Same(a, l[j]), alike(a, l[j]); got != want {
				t.Errorf("Same of %d, %d: %v", i, j, got)
			}
		}
	}
}

func TestP163EmptyIsEmpty(t *testing.T) {
	none := []byte{}
	empty := api.Node{
		Leaf:   api.Leaf{Box: none, Sign: none, Ident: none, Parent: none, Sig: none},
		Parent: api.Parent{Box: none, Hash: none, Late: []int{}},
	}
	if !node.Same(empty, api.Node{}) || !node.Same(api.Node{}, empty) {
		t.Error("an empty list isn't the same as none")
	}
	if !node.Same(node.Copy(empty), api.Node{}) || !isNoNode(node.Copy(empty)) {
		t.Error("Copy of empty lists")
	}
}

func TestP163Copy(t *testing.T) {
	for i, n := range append(odd(), others()...) {
		c := node.Copy(n)
		if !alike(c, n) || !node.Same(c, n) {
			t.Errorf("Copy of %d isn't it", i)
		}
	}
}

func TestP163CopyInNewMemory(t *testing.T) {
	for i, untouched := range append(odd(), others()...) {
		n := fresh(untouched)
		c := node.Copy(n)
		standsApart(t, "Copy", c)
		spoil(c)
		if !alike(n, untouched) {
			t.Errorf("Copy of %d changed with its copy", i)
		}
		c = node.Copy(n)
		spoil(n)
		if !alike(c, untouched) {
			t.Errorf("a copy of %d changed with it", i)
		}
	}
}
