package plan

import "ratline/walk"

const tallest = 16 // the level of the greatest tree's root

// spot is a node and its place. Its parts are whole numbers of at most 255, so that they are reckoned exactly.
type spot struct {
	node  int
	place complex128
}

// root tells the spot of the root of a tree of n leaves, or one without a node.
func root(n int) spot {
	return spot{node: walk.Root(n)}
}

// isNode tells whether the spot has a node: walk tells numbers below 0 where there is none.
func (s spot) isNode() bool {
	return s.node >= 0
}

// stride tells how far and which way the right child stands from the spot; 0 from a leaf.
func (s spot) stride() complex128 {
	return Stride(walk.Level(s.node))
}

// child tells the spot of the left child or of the right one, or one without a node. No nought gets a minus here, as
// the root's has none and a stride's has none.
func (s spot) child(isLeft bool) spot {
	if isLeft {
		return spot{walk.Left(s.node), s.place - s.stride()}
	}
	return spot{walk.Right(s.node), s.place + s.stride()}
}

// hasLeft tells whether a node at the place z would be beneath the left child, if it is beneath one of both: all
// that lower levels add or take away along the way of a stride is less than it.
func (s spot) hasLeft(z complex128) bool {
	return dot(z-s.place, s.stride()) < 0
}

// dot tells how far z goes the way of w, times how far w goes.
func dot(z, w complex128) float64 {
	return real(z)*real(w) + imag(z)*imag(w)
}
