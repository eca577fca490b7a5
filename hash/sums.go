package hash

import (
	"slices"

	"ratline/api"
	"ratline/sha"
	"ratline/walk"
	"ratline/wire"
)

// The kinds of a node.
const (
	blank = iota
	leaf
	parent
)

// What stands ahead in a text, so that no leaf's place has that of another node.
const (
	markSize   = 1
	leafMark   = 1
	parentMark = 2
	placeSize  = 4
)

// sums has a tree that is right, and those of its nodes' hashes that were
// reckoned already: to ask for all of them takes as long as to ask for the
// root's.
type sums struct {
	tree  []api.Node
	known [][]byte
}

func sumsOf(t []api.Node) sums {
	return sums{t, make([][]byte, len(t))}
}

func (s sums) root() int {
	return walk.Root(s.leaves())
}

func (s sums) leaves() int {
	return (len(s.tree) + 1) / 2
}

// of tells the hash of x.
func (s sums) of(x int) []byte {
	if s.known[x] == nil {
		s.known[x] = s.reckoned(x)
	}
	return s.known[x]
}

func (s sums) reckoned(x int) []byte {
	if isLeafs(x) {
		return leafHash(x, s.tree[x])
	}
	return parentHash(s.tree[x], s.of(walk.Left(x)), s.of(walk.Right(x)))
}

// without tells the hash of x as if these leaves' places, which rise and are
// beneath it, were blank, and in nobody's Late.
func (s sums) without(x int, places []int) []byte {
	if len(places) == 0 {
		return s.of(x)
	}
	if isLeafs(x) {
		return leafHash(x, api.Node{})
	}
	// This is a copy: the tree's own node keeps its Late.
	n := s.tree[x]
	n.Parent.Late = less(n.Parent.Late, places)
	left, right := walk.Left(x), walk.Right(x)
	return parentHash(n, s.without(left, beneath(places, left)), s.without(right, beneath(places, right)))
}

// seen tells the hash of the parent p, seen from its child c. The leaves of
// its Late came after it was made, so that they play no part.
func (s sums) seen(p, c int) []byte {
	n := s.tree[p].Parent
	other := walk.Sibling(c, s.leaves())
	hash := s.without(other, beneath(n.Late, other))
	return sha.Of(wire.PutVec(nil, n.Box), wire.PutVec(nil, n.Hash), wire.PutVec(nil, hash))
}

// leafHash tells the hash of a leaf's place, whose node is right.
func leafHash(x int, n api.Node) []byte {
	text, _ := LeafText(x/2, n)
	return sha.Of(text)
}

// parentHash tells the hash of another node, which is right.
func parentHash(n api.Node, left, right []byte) []byte {
	text, _ := ParentText(n, left, right)
	return sha.Of(text)
}

// isLeafs tells whether a node's place is a leaf's.
func isLeafs(x int) bool {
	return x%2 == 0
}

// isOf tells whether x is a node of a tree.
func isOf(t []api.Node, x int) bool {
	return x >= 0 && x < len(t)
}

// isChild tells whether c is a child of p, which has two.
func isChild(c, p int) bool {
	return c == walk.Left(p) || c == walk.Right(p)
}

func rising(places []int) []int {
	l := slices.Clone(places)
	slices.Sort(l)
	return l
}

// beneath tells those of some places, which rise, that are leaves' beneath x,
// or that of x.
func beneath(places []int, x int) []int {
	first, last := walk.Span(x)
	from, _ := slices.BinarySearch(places, first)
	to, _ := slices.BinarySearch(places, last+1)
	return places[from:to]
}

// less tells all places but some, which rise.
func less(all, some []int) []int {
	var l []int
	for _, i := range all {
		if _, ok := slices.BinarySearch(some, i); !ok {
			l = append(l, i)
		}
	}
	return l
}
