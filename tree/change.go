package tree

import (
	"slices"

	"ratline/api"
	"ratline/node"
	"ratline/walk"
)

// All that is changed here is a copy already: nobody else has it.

// refused tells why a leaf can't be put into a tree, wherever that is.
func refused(t []api.Node, l api.Leaf) api.Err {
	if !Right(t) {
		return api.Tree
	}
	_, e := node.LeafBytes(l)
	return e
}

// firstBlank tells the place of the first blank leaf, or, if there is none,
// the one behind all, which is the first blank one as soon as the tree is
// twice as great.
func firstBlank(t []api.Node) int {
	i := 0
	for isMember(t, i) {
		i++
	}
	return i
}

// doubled tells a tree twice as great, whose new nodes are blank.
func doubled(t []api.Node) []api.Node {
	return append(t, make([]api.Node, len(t)+1)...)
}

// halved tells the left half of a tree that has a member, again and again, as
// long as the right one has none.
func halved(t []api.Node) []api.Node {
	if hasMember(t, end(leaves(t))) {
		return t
	}
	return halved(t[:len(t)/2])
}

func put(t []api.Node, i int, l api.Leaf) {
	t[2*i] = node.Copy(api.Node{Kind: leaf, Leaf: l})
}

// addLate puts a leaf into the Late of each parent above it, none of which has
// it yet.
func addLate(t []api.Node, i int) {
	for _, x := range walk.Path(2*i, leaves(t)) {
		if t[x].Kind == parent {
			p := &t[x].Parent
			at, _ := slices.BinarySearch(p.Late, i)
			p.Late = slices.Insert(p.Late, at, i)
		}
	}
}

func blankPath(t []api.Node, i int) {
	for _, x := range walk.Path(2*i, leaves(t)) {
		t[x] = api.Node{}
	}
}
