package hash_test

import (
	"bytes"
	"crypto/sha256"
	"fmt"
	"math"
	"math/bits"
	"math/rand"
	"slices"

	"ratline/api"
	"ratline/tree"
)

const mostLeaves = 65536

// random tells n bytes, the same ones for the same seed.
func random(seed, n int) []byte {
	b := make([]byte, n)
	for i, x := 0, uint64(seed); i < n; i++ {
		x = x*6364136223846793005 + 1442695040888963407
		b[i] = byte(x >> 56)
	}
	return b
}

// aMember tells the node of a right leaf, unlike those of other seeds.
func aMember(seed int) api.Node {
	l := api.Leaf{Box: random(seed, 32), Sign: random(seed+1, 32), Ident: fmt.Append(nil, "member ", seed), Source: 3, Parent: random(seed+2, 32), Sig: random(seed+3, 64)}
	if seed%3 != 0 {
		l.Source, l.Parent = uint8(seed%3), nil
	}
	return api.Node{Kind: 1, Leaf: l}
}

// aParent tells the node of a right parent.
func aParent(seed int, late ...int) api.Node {
	p := api.Parent{Box: random(7*seed, 32), Hash: random(8*seed, 32), Late: late}
	if seed%2 == 0 {
		p.Hash = nil
	}
	return api.Node{Kind: 2, Parent: p}
}

// some tells a tree of n leaves with members at these places, and no parents.
func some(n int, places ...int) []api.Node {
	t := make([]api.Node, 2*n-1)
	for _, i := range places {
		t[2*i] = aMember(i)
	}
	return t
}

// wholly tells a tree of n members.
func wholly(n int) []api.Node {
	t := make([]api.Node, 2*n-1)
	for i := range n {
		t[2*i] = aMember(i)
	}
	return t
}

// with tells a tree with another node.
func with(t []api.Node, x int, n api.Node) []api.Node {
	t = slices.Clone(t)
	t[x] = n
	return t
}

// lists tells all lists of bytes of a node.
func lists(n *api.Node) []*[]byte {
	l, p := &n.Leaf, &n.Parent
	return []*[]byte{&l.Box, &l.Sign, &l.Ident, &l.Parent, &l.Sig, &p.Box, &p.Hash}
}

// alike tells whether two trees have the same fields, just so: nil isn't empty.
func alike(a, b []api.Node) bool {
	return fmt.Sprintf("%#v", a) == fmt.Sprintf("%#v", b)
}

func freshNode(n api.Node) api.Node {
	for _, l := range lists(&n) {
		*l = bytes.Clone(*l)
	}
	n.Parent.Late = slices.Clone(n.Parent.Late)
	return n
}

// fresh tells the same tree in new memory.
func fresh(t []api.Node) []api.Node {
	t = slices.Clone(t)
	for x := range t {
		t[x] = freshNode(t[x])
	}
	return t
}

func spoilBytes(b []byte) {
	for i := range b[:cap(b)] {
		b[:cap(b)][i] ^= 255
	}
}

// under tells whether the node x is y, or beneath it.
func under(x, y int) bool {
	far := 1<<level(y) - 1
	return y-far <= x && x <= y+far
}

func level(x int) int {
	return bits.TrailingZeros(^uint(x))
}

// children tells the nodes that stand beneath a parent, next to it.
func children(p int) []int {
	far := 1 << level(p) / 2
	return []int{p - far, p + far}
}

// vec tells the vector of v, laid out here anew.
func vec(v []byte) []byte {
	n := len(v)
	switch {
	case n < 64:
		return append([]byte{byte(n)}, v...)
	case n < 16384:
		return append([]byte{0x40 | byte(n>>8), byte(n)}, v...)
	}
	return append([]byte{0x80 | byte(n>>24), byte(n >> 16), byte(n >> 8), byte(n)}, v...)
}

func four(i int) []byte {
	return []byte{byte(i >> 24), byte(i >> 16), byte(i >> 8), byte(i)}
}

func joined(parts ...[]byte) []byte {
	return bytes.Join(parts, nil)
}

// digest tells that of all parts, by the library.
func digest(parts ...[]byte) []byte {
	d := sha256.Sum256(joined(parts...))
	return d[:]
}

// raw tells a node's bytes, laid out here anew.
func raw(n api.Node) []byte {
	l, p := n.Leaf, n.Parent
	switch n.Kind {
	case 0:
		return []byte{0}
	case 1:
		b := joined([]byte{1}, vec(l.Box), vec(l.Sign), vec(l.Ident), []byte{l.Source})
		if l.Source == 3 {
			b = append(b, vec(l.Parent)...)
		}
		return append(b, vec(l.Sig)...)
	}
	var late []byte
	for _, i := range p.Late {
		late = append(late, four(i)...)
	}
	return joined([]byte{2}, vec(p.Box), vec(p.Hash), vec(late))
}

func leafTextByWords(i int, n api.Node) []byte {
	return joined([]byte{1}, four(i), raw(n))
}

func parentTextByWords(n api.Node, left, right []byte) []byte {
	return joined([]byte{2}, raw(n), vec(left), vec(right))
}

// allByWords tells each node's hash, level by level.
func allByWords(t []api.Node) [][]byte {
	all := make([][]byte, len(t))
	for l := 0; 1<<l <= len(t); l++ {
		for x := 1<<l - 1; x < len(t); x += 2 << l {
			if l == 0 {
				all[x] = digest(leafTextByWords(x/2, t[x]))
				continue
			}
			c := children(x)
			all[x] = digest(parentTextByWords(t[x], all[c[0]], all[c[1]]))
		}
	}
	return all
}

// bare tells a tree in which these leaves are blank, and in nobody's Late.
func bare(t []api.Node, places []int) []api.Node {
	t = fresh(t)
	for x := range t {
		if x%2 == 0 && slices.Contains(places, x/2) {
			t[x] = api.Node{}
		}
		t[x].Parent.Late = slices.DeleteFunc(t[x].Parent.Late, func(i int) bool { return slices.Contains(places, i) })
	}
	return t
}

// seenByWords tells the hash of a parent, seen from one of its children.
func seenByWords(t []api.Node, p, c int) []byte {
	n := t[p].Parent
	other := 2*p - c
	return digest(vec(n.Box), vec(n.Hash), vec(allByWords(bare(t, n.Late))[other]))
}

// bears tells what a node bears.
func bears(n *api.Node) *[]byte {
	if n.Kind == 1 {
		return &n.Leaf.Parent
	}
	return &n.Parent.Hash
}

// lateLeaves tells those leaves of a parent's Late that are beneath one of its
// children, as nodes.
func lateLeaves(t []api.Node, p, c int) []int {
	var l []int
	for _, i := range t[p].Parent.Late {
		if under(2*i, c) {
			l = append(l, 2*i)
		}
	}
	return l
}

// isKeptByWords tells whether a node that c resolves to bears p's hash, with
// just the late ones beside it.
func isKeptByWords(t []api.Node, p, c int) bool {
	l := tree.Resolve(t, c)
	for k, d := range l {
		others := slices.Delete(slices.Clone(l), k, k+1)
		slices.Sort(others)
		if slices.Equal(others, lateLeaves(t, p, c)) && bytes.Equal(*bears(&t[d]), seenByWords(t, p, c)) {
			return true
		}
	}
	return false
}

func standsByWords(t []api.Node) bool {
	for p := range t {
		if t[p].Kind == 2 && !slices.ContainsFunc(children(p), func(c int) bool { return isKeptByWords(t, p, c) }) {
			return false
		}
	}
	return tree.Right(t)
}

// renewed tells a tree in which a member's filtered path are new parents, of
// whose hashes each one is borne by the next one beneath it.
func renewed(t []api.Node, i, seed int) []api.Node {
	path := tree.Filtered(t, i)
	t = fresh(t)
	for x := range t {
		if x != 2*i && under(2*i, x) {
			t[x] = api.Node{}
		}
	}
	for _, x := range path {
		t[x] = api.Node{Kind: 2, Parent: api.Parent{Box: random(seed+x, 32)}}
	}
	t[2*i].Leaf.Source, t[2*i].Leaf.Parent = 3, nil
	for k := len(path) - 1; k >= 0; k-- {
		d := 2 * i
		if k > 0 {
			d = path[k-1]
		}
		for _, c := range children(path[k]) {
			if under(d, c) {
				*bears(&t[d]) = seenByWords(t, path[k], c)
			}
		}
	}
	return t
}

// lived tells a tree as one is after some steps of a group's life: it stands.
func lived(s *rand.Rand, steps int) []api.Node {
	t := some(1, 0)
	for step := range steps {
		l := tree.Members(t)
		i := l[s.Intn(len(l))]
		switch what := s.Intn(8); {
		case what < 3:
			t, _, _ = tree.Add(t, aMember(100*step+1).Leaf)
		case what < 4:
			t, _ = tree.Update(t, i, aMember(100*step+2).Leaf)
		case what < 5 && len(l) > 1:
			t, _ = tree.Remove(t, i)
		default:
			t = renewed(t, i, 100*step)
		}
	}
	return t
}

// drawn tells a right tree of n leaves by chance: a member is in the Late of
// those above it that aren't blank up to some level.
func drawn(s *rand.Rand, n int) []api.Node {
	t := make([]api.Node, 2*n-1)
	full, bare := s.Intn(4), s.Intn(4)
	for x := range t {
		if x%2 == 0 && s.Intn(4) <= full {
			t[x] = aMember(s.Intn(1000))
		}
		if x%2 == 1 && s.Intn(4) >= bare {
			t[x] = aParent(s.Intn(1000))
		}
	}
	at := n - 1 - s.Intn((n+1)/2)
	t[2*at] = aMember(s.Intn(1000))
	for i := range n {
		for x := range t {
			if x%2 == 1 && under(2*i, x) && t[2*i].Kind == 1 && t[x].Kind == 2 && level(x) <= i*at%5 {
				t[x].Parent.Late = append(t[x].Parent.Late, i)
			}
		}
	}
	return t
}

// eachTree tells each right tree of n leaves, each parent of which may have any
// Late.
func eachTree(n int, do func(t []api.Node)) {
	t := make([]api.Node, 2*n-1)
	var at func(x int)
	at = func(x int) {
		if x == len(t) {
			if tree.Right(t) {
				do(t)
			}
			return
		}
		t[x] = api.Node{}
		at(x + 1)
		if x%2 == 0 {
			t[x] = aMember(x / 2)
			at(x + 1)
			return
		}
		for set := range 1 << n {
			t[x] = aParent(x, places(set)...)
			at(x + 1)
		}
	}
	at(0)
}

// places tells which digits of a number in base two are ones.
func places(set int) []int {
	var l []int
	for i := range 64 {
		if set>>i&1 == 1 {
			l = append(l, i)
		}
	}
	return l
}

// rightTrees tells all right trees of one and of two leaves, many of four, and
// some greater ones.
func rightTrees() [][]api.Node {
	var l [][]api.Node
	s := rand.New(rand.NewSource(1))
	for _, n := range []int{1, 2, 4} {
		eachTree(n, func(t []api.Node) {
			if n < 4 || s.Intn(4) == 0 {
				l = append(l, slices.Clone(t))
			}
		})
	}
	for k := range 40 {
		l = append(l, drawn(s, 8<<(k%3)), lived(s, 10+k))
	}
	return l
}

// wrongTree is a tree with one fault.
type wrongTree struct {
	what string
	tree []api.Node
}

func wrongTrees() []wrongTree {
	whole := wholly(4)
	l := []wrongTree{
		{"nil", nil}, {"no node", []api.Node{}}, {"one blank node", some(1)}, {"a blank tree", some(4)},
		{"two nodes", whole[:2]}, {"half of a tree and its root", whole[:4]}, {"five nodes", whole[:5]}, {"six nodes", whole[:6]},
		{"eight nodes", append(wholly(4), api.Node{})}, {"nobody in the right half", some(4, 0, 1)},
		{"a member at a parent's place", with(whole, 1, aMember(1))}, {"a parent at a leaf's place", with(whole, 2, aParent(1))},
		{"late beyond", with(whole, 1, aParent(1, 2))}, {"late, but blank", with(some(4, 0, 3), 3, aParent(1, 1))},
		{"late above, but not between", with(with(whole, 3, aParent(1, 3)), 5, aParent(1, 2))},
	}
	for _, n := range wrongNodes() {
		l = append(l, wrongTree{"a wrong node", with(whole, 4+int(n.Kind>>1&1), n)})
	}
	return l
}

// wrongNodes tells nodes that aren't right.
func wrongNodes() []api.Node {
	change := func(n api.Node, do func(n *api.Node)) api.Node {
		n = freshNode(n)
		do(&n)
		return n
	}
	return []api.Node{
		{Kind: 1}, {Kind: 2}, {Kind: 3}, {Kind: 255}, {Leaf: aMember(0).Leaf}, {Parent: aParent(1).Parent}, {Parent: api.Parent{Late: []int{1}}},
		change(aMember(0), func(n *api.Node) { n.Leaf.Box = n.Leaf.Box[1:] }),
		change(aMember(0), func(n *api.Node) { n.Leaf.Source = 1 }),
		change(aMember(0), func(n *api.Node) { n.Leaf.Sig = append(n.Leaf.Sig, 0) }),
		change(aMember(0), func(n *api.Node) { n.Parent.Late = []int{0} }),
		change(aParent(1), func(n *api.Node) { n.Parent.Box = nil }),
		change(aParent(1), func(n *api.Node) { n.Parent.Hash = n.Parent.Hash[1:] }),
		change(aParent(1), func(n *api.Node) { n.Parent.Late = []int{1, 0} }),
		change(aParent(1), func(n *api.Node) { n.Parent.Late = []int{-1, 1} }),
		change(aParent(1), func(n *api.Node) { n.Leaf.Source = 3 }),
	}
}

// notNodes tells numbers that are no nodes of a tree, nor places of its leaves.
func notNodes(t []api.Node) []int {
	return []int{
		-1, -2, -3, -len(t), len(t), len(t) + 1, len(t) + 2, 2 * mostLeaves, 1<<31 - 1, -1 << 31, 1 << 32, 1<<32 + 1,
		1 << 62, 1<<62 + 1, math.MaxInt, math.MaxInt - 1, math.MinInt, math.MinInt + 1, math.MinInt / 2,
	}
}

// short tells the beginning of a value, which may be long.
func short(v any) string {
	text := fmt.Sprintf("%+v", v)
	if b, ok := v.([]byte); ok {
		text = fmt.Sprintf("% x", b)
	}
	return text[:min(len(text), 300)]
}

// drawing tells a tree's nodes in few signs: a member's name, a parent's Late.
func drawing(t []api.Node) string {
	var l []string
	for _, n := range t[:min(len(t), 63)] {
		switch n.Kind {
		case 0:
			l = append(l, "-")
		case 1:
			l = append(l, string(n.Leaf.Ident))
		default:
			l = append(l, fmt.Sprint(n.Parent.Late))
		}
	}
	return fmt.Sprintf("%d nodes %q", len(t), l)
}
