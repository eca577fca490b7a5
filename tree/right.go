package tree

import (
	"slices"

	"ratline/api"
	"ratline/node"
	"ratline/walk"
)

// The kinds of a node.
const (
	blank = iota
	leaf
	parent
)

// leaves tells how many leaves a tree of so many nodes has, or 0, if there is
// no such tree.
func leaves(t []api.Node) int {
	n := (len(t) + 1) / 2
	if len(t)%2 == 0 || !walk.Fits(n) {
		return 0
	}
	return n
}

// areRight tells whether each node is right, and may stand at its place.
func areRight(t []api.Node) bool {
	for x := range t {
		if !mayStand(t[x].Kind, x) {
			return false
		}
		// There are bytes of nodes that are right alone.
		if _, e := node.Bytes(t[x]); e != api.OK {
			return false
		}
	}
	return true
}

func mayStand(kind uint8, x int) bool {
	if isLeafs(x) {
		return kind != parent
	}
	return kind != leaf
}

// isLeafs tells whether a node's place is a leaf's.
func isLeafs(x int) bool {
	return x%2 == 0
}

// end tells the root of that part of a tree of n leaves that may not be
// without a member: of its right half, or, of one leaf, of all of it.
func end(n int) int {
	if n == 1 {
		return walk.Root(n)
	}
	return walk.Right(walk.Root(n))
}

// isLateRight tells whether the Late of x and of all parents beneath it are
// right. Above are the leaves beneath x that the lowest parent above has in
// its Late: to ask each parent for them, and for what it hands down, is to ask
// all that stand between a parent and its late leaves.
func isLateRight(t []api.Node, x int, above []int) bool {
	if isLeafs(x) {
		return len(above) == 0 || t[x].Kind == leaf
	}
	late := above
	if t[x].Kind == parent {
		late = t[x].Parent.Late
		if !areBeneath(late, x) || !hasAll(late, above) {
			return false
		}
	}
	// Late rises, so that what is beneath the left child stands ahead.
	_, last := walk.Span(walk.Left(x))
	cut, _ := slices.BinarySearch(late, last+1)
	return isLateRight(t, walk.Left(x), late[:cut]) && isLateRight(t, walk.Right(x), late[cut:])
}

// areBeneath tells whether places that rise are those of leaves beneath x.
func areBeneath(places []int, x int) bool {
	first, last := walk.Span(x)
	return len(places) == 0 || places[0] >= first && places[len(places)-1] <= last
}

// hasAll tells whether each of some is one of all, which rise.
func hasAll(all, some []int) bool {
	for _, i := range some {
		if _, ok := slices.BinarySearch(all, i); !ok {
			return false
		}
	}
	return true
}
