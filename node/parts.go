package node

import (
	"ratline/api"
	"ratline/wire"
)

// Sizes of numbers, in bytes.
const (
	kindSize  = 1 // of a kind, and of a source
	placeSize = 4
)

const label = "LeafNodeTBS"

// putUnsigned tells a leaf's bytes without its signature.
func putUnsigned(l api.Leaf) []byte {
	b := wire.PutVec(wire.PutVec(wire.PutVec(nil, l.Box), l.Sign), l.Ident)
	b = wire.PutNum(b, kindSize, uint64(l.Source))
	if l.Source == ofCommit {
		b = wire.PutVec(b, l.Parent)
	}
	return b
}

// signedText tells what is signed of a leaf.
func signedText(l api.Leaf, group []byte, at int) []byte {
	b := putUnsigned(l)
	if l.Source == ofPackage {
		return b
	}
	return wire.PutNum(wire.PutVec(b, group), placeSize, uint64(at))
}

// putParent tells a parent's bytes.
func putParent(p api.Parent) []byte {
	// Each number is put by itself: all that stands ahead would be copied for
	// each of them else, and there may be many.
	late := make([]byte, 0, placeSize*len(p.Late))
	for _, at := range p.Late {
		late = append(late, wire.PutNum(nil, placeSize, uint64(at))...)
	}
	return wire.PutVec(wire.PutVec(wire.PutVec(nil, p.Box), p.Hash), late)
}

// takeNode tells the node that stands next, and what came of it beside an error.
func takeNode(r *wire.Reader) (n api.Node, e api.Err) {
	n.Kind = uint8(r.Num(kindSize))
	if e = r.Err(); e != api.OK {
		return n, e
	}
	switch n.Kind {
	case blank:
	case leaf:
		n.Leaf, e = takeLeaf(r)
	case parent:
		n.Parent, e = takeParent(r)
	default:
		e = api.Form
	}
	return n, e
}

// takeLeaf tells the leaf that stands next, and what came of it beside an error.
func takeLeaf(r *wire.Reader) (api.Leaf, api.Err) {
	l := api.Leaf{Box: r.Vec(), Sign: r.Vec(), Ident: r.Vec(), Source: uint8(r.Num(kindSize))}
	if e := r.Err(); e != api.OK {
		return l, e
	}
	if !isSource(l.Source) {
		return l, api.Form
	}
	if l.Source == ofCommit {
		l.Parent = r.Vec()
	}
	l.Sig = r.Vec()
	if e := r.Err(); e != api.OK {
		return l, e
	}
	return l, formOf(isLeaf(l))
}

// takeParent tells the parent that stands next, and what came of it beside an error.
func takeParent(r *wire.Reader) (api.Parent, api.Err) {
	p := api.Parent{Box: r.Vec(), Hash: r.Vec()}
	late := r.Vec()
	if e := r.Err(); e != api.OK {
		return p, e
	}
	var whole bool
	p.Late, whole = takeLate(late)
	return p, formOf(whole && isParent(p))
}

// takeLate tells the numbers that bytes make four by four, or that they make none.
func takeLate(b []byte) ([]int, bool) {
	// More than all places can't rise: they needn't be laid out.
	if len(b)%placeSize != 0 || len(b) > placeSize*api.MaxLeaves {
		return nil, false
	}
	r := wire.NewReader(b)
	late := make([]int, 0, len(b)/placeSize)
	for r.Left() > 0 {
		late = append(late, int(r.Num(placeSize)))
	}
	return late, true
}

func formOf(right bool) api.Err {
	if right {
		return api.OK
	}
	return api.Form
}
