package tree_test

import (
	"bytes"
	"fmt"
	"math"
	"math/bits"
	"math/rand"
	"slices"
	"testing"

	"ratline/api"
	"ratline/node"
)

const (
	mostLeaves = 65536
	mostBytes  = 1 << 20
)

// random tells n bytes, the same ones for the same seed.
func random(seed, n int) []byte {
	b := make([]byte, n)
	for i, x := 0, uint64(seed); i < n; i++ {
		x = x*6364136223846793005 + 1442695040888963407
		b[i] = byte(x >> 56)
	}
	return b
}

// aLeaf tells a right leaf, unlike those of other names.
func aLeaf(name string) api.Leaf {
	seed := len(name)
	for _, c := range name {
		seed = 31*seed + int(c)
	}
	return api.Leaf{Box: random(seed, 32), Sign: random(seed+1, 32), Ident: []byte(name), Source: 3, Parent: random(seed+2, 32), Sig: random(seed+3, 64)}
}

// aMember tells the node of a member.
func aMember(name string) api.Node {
	return api.Node{Kind: 1, Leaf: aLeaf(name)}
}

// aParent tells the node of a parent.
func aParent(late ...int) api.Node {
	return api.Node{Kind: 2, Parent: api.Parent{Box: random(7, 32), Hash: random(8, 32), Late: late}}
}

// some tells a tree of n leaves with members at these places, and no parents.
func some(n int, places ...int) []api.Node {
	t := make([]api.Node, 2*n-1)
	for _, i := range places {
		t[2*i] = aMember(fmt.Sprint("member ", i))
	}
	return t
}

// wholly tells a tree of n members, all of the same fields, and no parents.
func wholly(n int) []api.Node {
	t, m := make([]api.Node, 2*n-1), aMember("ada")
	for x := 0; x < len(t); x += 2 {
		t[x] = m
	}
	return t
}

// with tells a tree with another node.
func with(t []api.Node, x int, n api.Node) []api.Node {
	t = slices.Clone(t)
	t[x] = n
	return t
}

// lists tells all lists of bytes of a node.
func lists(n *api.Node) []*[]byte {
	l, p := &n.Leaf, &n.Parent
	return []*[]byte{&l.Box, &l.Sign, &l.Ident, &l.Parent, &l.Sig, &p.Box, &p.Hash}
}

func alikeNodes(a, b api.Node) bool {
	x, y := lists(&a), lists(&b)
	for i := range x {
		if !bytes.Equal(*x[i], *y[i]) {
			return false
		}
	}
	return a.Kind == b.Kind && a.Leaf.Source == b.Leaf.Source && slices.Equal(a.Parent.Late, b.Parent.Late)
}

// alike tells whether two trees have the same fields; an empty list is an empty list.
func alike(a, b []api.Node) bool {
	return slices.EqualFunc(a, b, alikeNodes)
}

func freshNode(n api.Node) api.Node {
	for _, l := range lists(&n) {
		*l = bytes.Clone(*l)
	}
	n.Parent.Late = slices.Clone(n.Parent.Late)
	return n
}

// fresh tells the same tree in new memory.
func fresh(t []api.Node) []api.Node {
	out := make([]api.Node, len(t))
	for x := range t {
		out[x] = freshNode(t[x])
	}
	return out
}

// spoil changes all that stands in a tree, and behind it, as far as its memory reaches.
func spoil(t []api.Node) {
	t = t[:cap(t)]
	for x := range t {
		spoilNode(&t[x])
		t[x].Kind ^= 7
		t[x].Leaf.Source ^= 7
	}
}

func spoilNode(n *api.Node) {
	for _, l := range lists(n) {
		spoilBytes(*l)
	}
	for i := range n.Parent.Late[:cap(n.Parent.Late)] {
		n.Parent.Late[:cap(n.Parent.Late)][i] ^= -1
	}
}

func spoilBytes(b []byte) {
	for i := range b[:cap(b)] {
		b[:cap(b)][i] ^= 255
	}
}

// standsApart changes what stands behind each list of a tree, and asks that
// nothing of the tree changes.
func standsApart(t *testing.T, what string, got []api.Node) {
	t.Helper()
	before := fresh(got)
	for x := range got {
		for _, l := range lists(&got[x]) {
			spoilBytes((*l)[len(*l):])
		}
		late := got[x].Parent.Late
		for i := range late[len(late):cap(late)] {
			late[:cap(late)][len(late)+i] ^= -1
		}
	}
	if !alike(got, before) {
		t.Errorf("%s: two lists share memory", what)
	}
}

// under tells whether the node x is y, or beneath it.
func under(x, y int) bool {
	far := 1<<bits.TrailingZeros(^uint(y)) - 1
	return y-far <= x && x <= y+far
}

// rightByWords tells whether a tree is right, word by word.
func rightByWords(t []api.Node) bool {
	n := (len(t) + 1) / 2
	if n < 1 || n > mostLeaves || bits.OnesCount(uint(n)) != 1 || len(t) != 2*n-1 {
		return false
	}
	last := n == 1 && t[0].Kind == 1
	for x, at := range t {
		if _, e := node.Bytes(at); e != api.OK || x%2 == 0 && at.Kind == 2 || x%2 == 1 && at.Kind == 1 {
			return false
		}
		last = last || x > n-1 && at.Kind == 1
	}
	for p := range t {
		for _, i := range t[p].Parent.Late {
			if !under(2*i, p) || t[2*i].Kind != 1 {
				return false
			}
			for q := range t {
				if q != p && t[q].Kind == 2 && under(2*i, q) && under(q, p) && !slices.Contains(t[q].Parent.Late, i) {
					return false
				}
			}
		}
	}
	return last
}

// resolvedByWords tells what x resolves to: of all nodes beneath it that
// aren't blank those with no such one between, from left to right.
func resolvedByWords(t []api.Node, x int) []int {
	var l []int
	for y := range t {
		covered := false
		for z := range t {
			covered = covered || z != y && t[z].Kind != 0 && under(y, z) && under(z, x)
		}
		if t[y].Kind == 0 || !under(y, x) || covered {
			continue
		}
		l = append(l, y)
		for _, i := range t[y].Parent.Late {
			l = append(l, 2*i)
		}
	}
	return l
}

// above tells all nodes of a tree above a leaf's place, the lowest one first.
func above(t []api.Node, i int) []int {
	var l []int
	for x := range t {
		if x != 2*i && under(2*i, x) {
			l = append(l, x)
		}
	}
	slices.SortFunc(l, func(x, y int) int { return bits.TrailingZeros(^uint(x)) - bits.TrailingZeros(^uint(y)) })
	return l
}

// filteredByWords tells the filtered path of a leaf's place: the nodes above
// it beneath which something isn't blank that isn't beneath the one ahead.
func filteredByWords(t []api.Node, i int) []int {
	var l []int
	ahead := 2 * i
	for _, x := range above(t, i) {
		for y := range t {
			if y != x && under(y, x) && !under(y, ahead) && t[y].Kind != 0 {
				l = append(l, x)
				break
			}
		}
		ahead = x
	}
	return l
}

// membersByWords tells the places of all members.
func membersByWords(t []api.Node) []int {
	var l []int
	for x, n := range t {
		if n.Kind == 1 {
			l = append(l, x/2)
		}
	}
	return l
}

// notPlaces tells numbers that are no places in a tree of n leaves, nor nodes of it.
func notPlaces(n int) []int {
	return []int{
		-1, -2, -3, -n, 2*n - 1, 2 * n, 2*n + 1, mostLeaves * 2, 1<<31 - 1, -1 << 31, 1 << 32, 1<<32 + 1,
		1 << 62, 1<<62 + 1, math.MaxInt, math.MaxInt - 1, math.MinInt, math.MinInt + 1, math.MinInt / 2,
	}
}

// drawn tells a right tree of n leaves by chance: a member is in the Late of
// those above it that aren't blank up to some level.
func drawn(s *rand.Rand, n int) []api.Node {
	t := make([]api.Node, 2*n-1)
	full, bare := s.Intn(4), s.Intn(4)
	for x := range t {
		if x%2 == 0 && s.Intn(4) <= full {
			t[x] = aMember(fmt.Sprint("drawn ", x))
		}
		if x%2 == 1 && s.Intn(4) >= bare {
			t[x] = aParent()
			t[x].Parent.Box = random(x, 32)
		}
	}
	at := n - 1 - s.Intn((n+1)/2)
	t[2*at] = aMember("of the right half")
	for i := range n {
		for _, x := range above(t, i) {
			if t[2*i].Kind == 0 || s.Intn(3) == 0 {
				break
			}
			if t[x].Kind == 2 {
				t[x].Parent.Late = append(t[x].Parent.Late, i)
			}
		}
	}
	return t
}

// eachTree tells each tree of n leaves whose members are named by their
// places, and whose parents have a Late of any of these places.
func eachTree(n int, do func(t []api.Node)) {
	t := make([]api.Node, 2*n-1)
	var at func(x int)
	at = func(x int) {
		if x == len(t) {
			do(t)
			return
		}
		t[x] = api.Node{}
		at(x + 1)
		if x%2 == 0 {
			t[x] = aMember(fmt.Sprint(x / 2))
			at(x + 1)
			return
		}
		for set := range 1 << n {
			t[x] = aParent(places(set)...)
			at(x + 1)
		}
	}
	at(0)
}

// places tells which digits of a number in base two are ones.
func places(set int) []int {
	var l []int
	for i := range 64 {
		if set>>i&1 == 1 {
			l = append(l, i)
		}
	}
	return l
}

// rightTrees tells all right trees of one and of two leaves, many of four, and
// some greater ones.
func rightTrees() [][]api.Node {
	var l [][]api.Node
	s := rand.New(rand.NewSource(1))
	for _, n := range []int{1, 2, 4} {
		eachTree(n, func(t []api.Node) {
			if rightByWords(t) && (n < 4 || s.Intn(8) == 0) {
				l = append(l, slices.Clone(t))
			}
		})
	}
	for _, n := range []int{8, 8, 16, 32} {
		for range 40 {
			l = append(l, drawn(s, n))
		}
	}
	return l
}

// wrongTree is a tree with one fault.
type wrongTree struct {
	what string
	tree []api.Node
}

func wrongTrees() []wrongTree {
	var l []wrongTree
	fault := func(what string, t []api.Node) { l = append(l, wrongTree{what, t}) }
	fault("nil", nil)
	fault("no node", []api.Node{})
	for _, size := range []int{2, 4, 5, 6, 8, 9, 11, 13, 14, 16, 17, 23, 127*2 - 1} {
		t := make([]api.Node, size)
		for x := 0; x < size; x += 2 {
			t[x] = aMember("ada")
		}
		fault(fmt.Sprint(size, " nodes"), t)
	}
	for _, n := range []int{1, 2, 4, 8} {
		fault("all blank", some(n))
		if n > 1 {
			fault("the right half blank", some(n, places(1<<(n/2)-1)...))
			fault("the right half blank, but for its root", with(some(n, 0), n-1, aParent()))
		}
	}
	fault("the right half blank, but for a parent", with(some(4, 0, 1), 5, aParent()))
	whole := some(4, 0, 1, 2, 3)
	for x := range whole {
		if x%2 == 1 {
			fault("a member at a parent's place", with(whole, x, aMember("bob")))
		} else {
			fault("a parent at a leaf's place", with(whole, x, aParent()))
		}
	}
	for _, n := range wrongNodes() {
		fault("a wrong node", with(whole, 4+int(n.Kind>>1&1), n))
	}
	for _, x := range []struct {
		what string
		at   int
		late []int
	}{
		{"late above the left child", 5, []int{1}}, {"late beneath the right one's", 1, []int{2}},
		{"first late above another one", 5, []int{0, 2}}, {"last late above another one", 1, []int{1, 3}},
		{"late beyond the tree", 3, []int{4}}, {"late far beyond it", 3, []int{3, 65535}},
	} {
		fault(x.what, with(whole, x.at, aParent(x.late...)))
	}
	for i := range 3 {
		members := slices.Delete([]int{0, 1, 2, 3}, i, i+1)
		fault("late, but blank", with(some(4, members...), 3, aParent(i)))
		fault("late with others, but blank", with(some(4, members...), 3, aParent(0, 1, 2, 3)))
		fault("late of the lowest, but blank", with(some(4, members...), 1+4*(i/2), aParent(i)))
	}
	for i := range 4 {
		fault("late, but not between", with(with(whole, 3, aParent(i)), 1+4*(i/2), aParent()))
		fault("late, but another one between", with(with(whole, 3, aParent(i)), 1+4*(i/2), aParent(i^1)))
		fault("both late, but one between", with(with(whole, 3, aParent(0, 1, 2, 3)), 1+4*(i/2), aParent(i)))
	}
	wide := some(8, 0, 1, 2, 3, 4, 5, 6, 7)
	fault("late far above, but not between", with(with(wide, 7, aParent(5)), 9, aParent()))
	fault("late far above, but not in the middle", with(with(with(wide, 7, aParent(5)), 11, aParent()), 9, aParent(5)))
	return l
}

// wrongNodes tells nodes that aren't right.
func wrongNodes() []api.Node {
	change := func(n api.Node, do func(n *api.Node)) api.Node {
		n = freshNode(n)
		do(&n)
		return n
	}
	return []api.Node{
		{Kind: 1}, {Kind: 2}, {Kind: 3}, {Kind: 255}, {Leaf: aLeaf("ada")}, {Parent: aParent().Parent}, {Parent: api.Parent{Late: []int{1}}},
		change(aMember("ada"), func(n *api.Node) { n.Leaf.Box = n.Leaf.Box[1:] }),
		change(aMember("ada"), func(n *api.Node) { n.Leaf.Sign = nil }),
		change(aMember("ada"), func(n *api.Node) { n.Leaf.Ident = make([]byte, 65) }),
		change(aMember("ada"), func(n *api.Node) { n.Leaf.Source = 1 }),
		change(aMember("ada"), func(n *api.Node) { n.Leaf.Sig = append(n.Leaf.Sig, 0) }),
		change(aMember("ada"), func(n *api.Node) { n.Parent.Late = []int{0} }),
		change(aParent(), func(n *api.Node) { n.Parent.Box = nil }),
		change(aParent(), func(n *api.Node) { n.Parent.Hash = n.Parent.Hash[1:] }),
		change(aParent(), func(n *api.Node) { n.Parent.Late = []int{1, 0} }),
		change(aParent(), func(n *api.Node) { n.Parent.Late = []int{1, 1} }),
		change(aParent(), func(n *api.Node) { n.Parent.Late = []int{-1, 1} }),
		change(aParent(), func(n *api.Node) { n.Parent.Late = []int{math.MinInt, 1} }),
		change(aParent(), func(n *api.Node) { n.Parent.Late = []int{1, math.MaxInt} }),
		change(aParent(), func(n *api.Node) { n.Leaf.Source = 3 }),
	}
}

// wrongLeaves tells leaves that aren't right.
func wrongLeaves() []api.Leaf {
	l := []api.Leaf{{}}
	for _, n := range wrongNodes() {
		if n.Kind == 1 && len(n.Parent.Late) == 0 {
			l = append(l, n.Leaf)
		}
	}
	return l
}

// short tells the beginning of a value, which may be long.
func short(v any) string {
	text := fmt.Sprintf("%+v", v)
	if b, ok := v.([]byte); ok {
		text = fmt.Sprintf("% x", b)
	}
	return text[:min(len(text), 400)]
}

// drawing tells a tree's nodes in few signs: a member's first letters, a
// parent's Late.
func drawing(t []api.Node) string {
	var l []string
	for _, n := range t[:min(len(t), 63)] {
		switch n.Kind {
		case 0:
			l = append(l, "-")
		case 1:
			l = append(l, string(n.Leaf.Ident))
		default:
			l = append(l, fmt.Sprint(n.Parent.Late))
		}
	}
	return fmt.Sprintf("%d nodes %q", len(t), l)
}
