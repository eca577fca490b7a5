package node

import (
	"bytes"
	"slices"

	"ratline/api"
)

// The kinds of a node.
const (
	blank = iota
	leaf
	parent
)

// The sources of a leaf.
const (
	ofPackage = 1
	ofUpdate  = 2
	ofCommit  = 3
)

// isNode tells whether a node is right.
func isNode(n api.Node) bool {
	noLeaf := sameLeaf(n.Leaf, api.Leaf{})
	noParent := sameParent(n.Parent, api.Parent{})
	switch n.Kind {
	case blank:
		return noLeaf && noParent
	case leaf:
		return isLeaf(n.Leaf) && noParent
	case parent:
		return isParent(n.Parent) && noLeaf
	}
	return false
}

// isLeaf tells whether a leaf is right.
func isLeaf(l api.Leaf) bool {
	return len(l.Box) == api.KeySize && len(l.Sign) == api.KeySize &&
		len(l.Ident) > 0 && len(l.Ident) <= api.MaxIdent &&
		isSource(l.Source) &&
		(len(l.Parent) == 0 || l.Source == ofCommit && len(l.Parent) == api.HashSize) &&
		len(l.Sig) == api.SignSize
}

func isSource(s uint8) bool {
	return s == ofPackage || s == ofUpdate || s == ofCommit
}

// isParent tells whether a parent is right.
func isParent(p api.Parent) bool {
	last := -1
	for _, at := range p.Late {
		if !isPlace(at) || at <= last {
			return false
		}
		last = at
	}
	return len(p.Box) == api.KeySize && (len(p.Hash) == 0 || len(p.Hash) == api.HashSize)
}

func isPlace(at int) bool {
	return at >= 0 && at < api.MaxLeaves
}

// mayStand tells whether a leaf may stand at this place. One of a package may
// wherever it is said to, since it doesn't know its place yet.
func mayStand(l api.Leaf, at int) bool {
	return l.Source == ofPackage || isPlace(at)
}

func sameLeaf(a, b api.Leaf) bool {
	return bytes.Equal(a.Box, b.Box) && bytes.Equal(a.Sign, b.Sign) && bytes.Equal(a.Ident, b.Ident) &&
		a.Source == b.Source && bytes.Equal(a.Parent, b.Parent) && bytes.Equal(a.Sig, b.Sig)
}

func sameParent(a, b api.Parent) bool {
	return bytes.Equal(a.Box, b.Box) && bytes.Equal(a.Hash, b.Hash) && slices.Equal(a.Late, b.Late)
}

func copyLeaf(l api.Leaf) api.Leaf {
	return api.Leaf{
		Box: copied(l.Box), Sign: copied(l.Sign), Ident: copied(l.Ident),
		Source: l.Source, Parent: copied(l.Parent), Sig: copied(l.Sig),
	}
}

func copyParent(p api.Parent) api.Parent {
	return api.Parent{Box: copied(p.Box), Hash: copied(p.Hash), Late: copied(p.Late)}
}

func copied[T any](l []T) []T {
	return append([]T(nil), l...)
}
