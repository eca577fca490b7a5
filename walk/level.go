package walk

import "ratline/api"

const (
	none     = -1                      // what is told where there is no node
	lastNode = 2 * (api.MaxLeaves - 1) // of the greatest tree
)

// isNode tells whether some tree has the node x.
func isNode(x int) bool {
	return x >= 0 && x <= lastNode
}

// isOf tells whether the tree of n leaves has the node x.
func isOf(x, n int) bool {
	return Fits(n) && x >= 0 && x <= 2*(n-1)
}

// hasChildren tells whether x is a node, and no leaf.
func hasChildren(x int) bool {
	return isNode(x) && x%2 == 1
}

// hasParent tells whether the tree of n leaves has the node x beneath its root.
func hasParent(x, n int) bool {
	return isOf(x, n) && x != Root(n)
}

// level counts the ones of a node's number, from the lowest digit on. It ends, as no node's number is below 0.
func level(x int) int {
	l := 0
digit:
	if x%2 == 0 {
		return l
	}
	x /= 2
	l++
	goto digit
}

// reach tells how far from a parent its children stand.
func reach(x int) int {
	return 1 << (level(x) - 1)
}

// ends tells the first and the last node beneath a node, which are leaves; of a leaf itself twice.
func ends(x int) (lowest, highest int) {
	far := 1<<level(x) - 1
	return x - far, x + far
}

// above tells the parent of a node that isn't the root: it stands in the middle of its children.
func above(x int) int {
	return (x + beside(x)) / 2
}

// beside tells the sibling of a node that isn't the root: the digit behind those of its level tells left from right.
func beside(x int) int {
	return x ^ 2<<level(x)
}
