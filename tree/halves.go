package tree

import (
	"ratline/api"
	"ratline/walk"
)

// isMember tells whether a leaf that isn't blank has this place.
func isMember(t []api.Node, i int) bool {
	return i >= 0 && i < leaves(t) && t[2*i].Kind == leaf
}

// hasMember tells whether x is a member's leaf, or is above one.
func hasMember(t []api.Node, x int) bool {
	if isLeafs(x) {
		return t[x].Kind == leaf
	}
	return hasMember(t, walk.Left(x)) || hasMember(t, walk.Right(x))
}

// members tells the places of the members beneath x.
func members(t []api.Node, x int) []int {
	if !isLeafs(x) {
		return append(members(t, walk.Left(x)), members(t, walk.Right(x))...)
	}
	if t[x].Kind == blank {
		return nil
	}
	return []int{x / 2}
}

// resolved tells the nodes that x resolves to.
func resolved(t []api.Node, x int) []int {
	if t[x].Kind == blank {
		return resolvedBlank(t, x)
	}
	l := []int{x}
	for _, i := range t[x].Parent.Late {
		l = append(l, 2*i)
	}
	return l
}

func resolvedBlank(t []api.Node, x int) []int {
	if isLeafs(x) {
		return nil
	}
	return append(resolved(t, walk.Left(x)), resolved(t, walk.Right(x))...)
}

// resolves tells whether x resolves to something. It needn't have a member
// beneath it: a parent that isn't blank is enough.
func resolves(t []api.Node, x int) bool {
	if t[x].Kind != blank {
		return true
	}
	return !isLeafs(x) && (resolves(t, walk.Left(x)) || resolves(t, walk.Right(x)))
}
