package tree

import (
	"ratline/api"
	"ratline/node"
	"ratline/wire"
)

const mostNodes = 2*api.MaxLeaves - 1

// used tells how many nodes there are, but for the blank ones at the end.
func used(t []api.Node) int {
	n := len(t)
	for n > 0 && t[n-1].Kind == blank {
		n--
	}
	return n
}

// putNodes tells the bytes of nodes that are right, one behind the other.
func putNodes(l []api.Node) []byte {
	var b []byte
	for _, n := range l {
		one, _ := node.Bytes(n)
		b = append(b, one...)
	}
	return b
}

// takeNodes tells the nodes whose bytes these are, of which the last one isn't
// blank.
func takeNodes(b []byte) ([]api.Node, api.Err) {
	var t []api.Node
	var last api.Node
	count := 0
	for r := wire.NewReader(b); r.Left() > 0; count++ {
		n, e := node.Take(r)
		if e != api.OK {
			return nil, e
		}
		// More than there may be are read, but not kept: a node may be one
		// byte, and what holds it is far greater.
		if count < mostNodes {
			t = append(t, n)
		}
		last = n
	}
	if last.Kind == blank {
		return nil, api.Form
	}
	if count > mostNodes {
		return nil, api.Large
	}
	return t, api.OK
}

// filled tells the smallest tree that begins with these nodes, which are some,
// and not too many.
func filled(l []api.Node) []api.Node {
	size := 1
	for size < len(l) {
		size = 2*size + 1
	}
	return append(l, make([]api.Node, size-len(l))...)
}
