package node_test

import (
	"math"
	"testing"

	"ratline/api"
	"ratline/node"
)

func leafIs(t *testing.T, l api.Leaf, want []byte) {
	t.Helper()
	b, e := node.LeafBytes(l)
	if e != api.OK {
		t.Errorf("LeafBytes: %v", e)
	}
	same(t, "LeafBytes", b, want)
}

func nodeIs(t *testing.T, n api.Node, want []byte) {
	t.Helper()
	b, e := node.Bytes(n)
	if e != api.OK {
		t.Errorf("Bytes of kind %d: %v", n.Kind, e)
	}
	same(t, "Bytes", b, want)
}

func isForm(t *testing.T, what string, n api.Node) {
	t.Helper()
	if b, e := node.Bytes(n); e != api.Form || len(b) != 0 {
		t.Errorf("Bytes of %s: %s, %v, not Form", what, short(b), e)
	}
}

func TestP161WrittenOut(t *testing.T) {
	nodeIs(t, api.Node{}, []byte{0})
	l := aLeaf(1)
	leafIs(t, l, cat([]byte{32}, l.Box, []byte{32}, l.Sign, []byte("\x03ada\x01\x40\x40"), l.Sig))
	l = aLeaf(2)
	leafIs(t, l, cat([]byte{32}, l.Box, []byte{32}, l.Sign, []byte("\x03ada\x02\x40\x40"), l.Sig))
	l = aLeaf(3)
	leafIs(t, l, cat([]byte{32}, l.Box, []byte{32}, l.Sign, []byte("\x03ada\x03\x20"), l.Parent, []byte{0x40, 64}, l.Sig))
	nodeIs(t, api.Node{Kind: 1, Leaf: l}, cat([]byte{1, 32}, l.Box, []byte{32}, l.Sign, []byte("\x03ada\x03\x20"), l.Parent, []byte{0x40, 64}, l.Sig))
	l.Parent = nil
	leafIs(t, l, cat([]byte{32}, l.Box, []byte{32}, l.Sign, []byte("\x03ada\x03\x00\x40\x40"), l.Sig))

	p := aParent(1, 258, 65535)
	nodeIs(t, api.Node{Kind: 2, Parent: p}, cat([]byte{2, 32}, p.Box, []byte{32}, p.Hash, []byte{12, 0, 0, 0, 1, 0, 0, 1, 2, 0, 0, 255, 255}))
	p.Hash, p.Late = nil, nil
	nodeIs(t, api.Node{Kind: 2, Parent: p}, cat([]byte{2, 32}, p.Box, []byte{0, 0}))
}

func TestP161RightLeaves(t *testing.T) {
	for _, l := range rightLeaves() {
		leafIs(t, l, rawLeaf(l))
	}
}

func TestP161RightNodes(t *testing.T) {
	for _, n := range rightNodes() {
		nodeIs(t, n, raw(n))
	}
}

func TestP161WrongLeaves(t *testing.T) {
	for _, x := range wrongLeaves() {
		if b, e := node.LeafBytes(x.leaf); e != api.Form || len(b) != 0 {
			t.Errorf("LeafBytes, %s of source %d: %s, %v, not Form", x.what, x.leaf.Source, short(b), e)
		}
		isForm(t, "a leaf, "+x.what, api.Node{Kind: 1, Leaf: x.leaf})
	}
	if b, e := node.LeafBytes(api.Leaf{}); e != api.Form || len(b) != 0 {
		t.Errorf("LeafBytes of no leaf: %s, %v", short(b), e)
	}
	isForm(t, "no leaf", api.Node{Kind: 1})
}

func TestP161WrongParents(t *testing.T) {
	for _, p := range wrongParents() {
		isForm(t, "a wrong parent", api.Node{Kind: 2, Parent: p})
	}
	for _, at := range append(beyond(), math.MinInt32, -mostLeaves+1) {
		isForm(t, "a late one that is no place", api.Node{Kind: 2, Parent: aParent(at)})
		isForm(t, "a last late one that is no place", api.Node{Kind: 2, Parent: aParent(5, at)})
		isForm(t, "a first late one that is no place", api.Node{Kind: 2, Parent: aParent(at, 5)})
	}
	isForm(t, "no parent", api.Node{Kind: 2})
}

// fullFields tells leaves and parents of which one field alone isn't empty.
func fullFields() ([]api.Leaf, []api.Parent) {
	one := []byte{0}
	return []api.Leaf{{Box: one}, {Sign: one}, {Ident: one}, {Source: 1}, {Source: 255}, {Parent: one}, {Sig: one}, aLeaf(1), aLeaf(3)},
		[]api.Parent{{Box: one}, {Hash: one}, {Late: []int{0}}, {Late: []int{-1}}, aParent(), aParent(3)}
}

func TestP161WhatAKindDoesNotUse(t *testing.T) {
	leaves, parents := fullFields()
	for _, l := range leaves {
		isForm(t, "blank with a leaf's field", api.Node{Leaf: l})
		isForm(t, "a parent with a leaf's field", api.Node{Kind: 2, Leaf: l, Parent: aParent(1)})
	}
	for _, p := range parents {
		isForm(t, "blank with a parent's field", api.Node{Parent: p})
		isForm(t, "a leaf with a parent's field", api.Node{Kind: 1, Leaf: aLeaf(2), Parent: p})
	}
}

func TestP161OtherKinds(t *testing.T) {
	for kind := 3; kind < 256; kind++ {
		isForm(t, "such a kind", api.Node{Kind: uint8(kind)})
		isForm(t, "such a kind with a leaf", api.Node{Kind: uint8(kind), Leaf: aLeaf(1)})
		isForm(t, "such a kind with a parent", api.Node{Kind: uint8(kind), Parent: aParent(1)})
	}
}

func TestP161NewMemory(t *testing.T) {
	for _, n := range rightNodes() {
		n = fresh(n)
		want := raw(n)
		b, _ := node.Bytes(n)
		spoil(b)
		nodeIs(t, n, want)
		b, _ = node.Bytes(n)
		spoil(n)
		same(t, "Bytes of what is changed", b, want)
	}
	for _, l := range rightLeaves() {
		l = fresh(l)
		want := rawLeaf(l)
		b, _ := node.LeafBytes(l)
		spoil(b)
		leafIs(t, l, want)
		b, _ = node.LeafBytes(l)
		spoil(l)
		same(t, "LeafBytes of what is changed", b, want)
	}
}

func BenchmarkBytesOfAllLate(b *testing.B) {
	n := api.Node{Kind: 2, Parent: aParent(everyPlace()...)}
	for range b.N {
		node.Bytes(n)
	}
}
