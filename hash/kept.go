package hash

import (
	"bytes"
	"slices"

	"ratline/api"
	"ratline/walk"
)

// isKept tells whether the parent p's hash, seen from its child c, is borne by
// a node that c resolves to, all others being just the leaves of p's Late that
// are beneath c. All of these are among what c resolves to, since the tree is
// right: that one node has to be left without them is all that is to be asked.
func (s sums) isKept(p, c int) bool {
	late := s.tree[p].Parent.Late
	l := slices.DeleteFunc(s.resolved(c), func(x int) bool { return isLeafOf(x, late) })
	return len(l) == 1 && bytes.Equal(borne(s.tree[l[0]]), s.seen(p, c))
}

// resolved tells the nodes that x resolves to. (The tree as a whole is right,
// and isn't asked again for each of its nodes.)
func (s sums) resolved(x int) []int {
	n := s.tree[x]
	if n.Kind == blank {
		return s.resolvedBlank(x)
	}
	l := []int{x}
	for _, i := range n.Parent.Late {
		l = append(l, 2*i)
	}
	return l
}

func (s sums) resolvedBlank(x int) []int {
	if isLeafs(x) {
		return nil
	}
	return append(s.resolved(walk.Left(x)), s.resolved(walk.Right(x))...)
}

// isLeafOf tells whether x is the leaf of one of some places, which rise.
func isLeafOf(x int, places []int) bool {
	_, ok := slices.BinarySearch(places, x/2)
	return ok && isLeafs(x)
}

// borne tells what a node bears of its parent: the hash that whoever made both
// put there.
func borne(n api.Node) []byte {
	if n.Kind == leaf {
		return n.Leaf.Parent
	}
	return n.Parent.Hash
}
