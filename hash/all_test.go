package hash_test

import (
	"bytes"
	"math/rand"
	"slices"
	"testing"

	"ratline/api"
	"ratline/hash"
)

func areLists(t *testing.T, what string, got, want [][]byte, e api.Err) {
	t.Helper()
	if e != api.OK || !slices.EqualFunc(got, want, bytes.Equal) {
		t.Errorf("%s: %s, %v, not %s", what, short(got), e, short(want))
	}
}

func TestP182AllAndTree(t *testing.T) {
	for _, x := range rightTrees() {
		before, want := fresh(x), allByWords(x)
		all, e := hash.All(x)
		areLists(t, "All of "+drawing(x), all, want, e)
		b, e := hash.Tree(x)
		isBytes(t, "Tree of "+drawing(x), b, want[len(x)/2], e)
		if !alike(x, before) {
			t.Fatalf("changed to %s", drawing(x))
		}
	}
}

// Each of three nodes is laid out here by hand.
func TestP182WrittenOut(t *testing.T) {
	ada := aMember(1)
	x := []api.Node{ada, {}, {}}
	b, e := hash.Tree(x[:1])
	one := digest([]byte{1, 0, 0, 0, 0, 1, 32}, ada.Leaf.Box, []byte{32}, ada.Leaf.Sign, []byte{8}, []byte("member 1"), []byte{1, 0x40, 64}, ada.Leaf.Sig)
	isBytes(t, "Tree of one", b, one, e)
	x[2] = ada
	two := digest([]byte{1, 0, 0, 0, 1, 1, 32}, ada.Leaf.Box, []byte{32}, ada.Leaf.Sign, []byte{8}, []byte("member 1"), []byte{1, 0x40, 64}, ada.Leaf.Sig)
	all, e := hash.All(x)
	areLists(t, "All of two", all, [][]byte{one, digest([]byte{2, 0, 32}, one, []byte{32}, two), two}, e)
	x[0] = api.Node{}
	none := digest([]byte{1, 0, 0, 0, 0, 0})
	all, e = hash.All(x)
	areLists(t, "All of the second", all, [][]byte{none, digest([]byte{2, 0, 32}, none, []byte{32}, two), two}, e)
	p := aParent(1, 1)
	x[1] = p
	root := digest([]byte{2, 2, 32}, p.Parent.Box, []byte{32}, p.Parent.Hash, []byte{4, 0, 0, 0, 1, 32}, none, []byte{32}, two)
	all, e = hash.All(x)
	areLists(t, "All beneath a parent", all, [][]byte{none, root, two}, e)
	b, e = hash.Tree(x)
	isBytes(t, "Tree beneath a parent", b, root, e)
}

func TestP182WrongTrees(t *testing.T) {
	for _, x := range wrongTrees() {
		all, e := hash.All(x.tree)
		if e != api.Tree || len(all) != 0 {
			t.Errorf("All, %s: %s, %v", x.what, short(all), e)
		}
		b, e := hash.Tree(x.tree)
		fails(t, "Tree, "+x.what, b, e, api.Tree)
		for _, at := range append(notNodes(x.tree), 0, 1, 2, 3) {
			b, e = hash.Without(x.tree, at, []int{0, 1})
			fails(t, "Without, "+x.what, b, e, api.Tree)
			b, e = hash.Without(x.tree, at, nil)
			fails(t, "Without, "+x.what, b, e, api.Tree)
		}
	}
}

func TestP182NewMemory(t *testing.T) {
	for _, x := range rightTrees() {
		before, want := fresh(x), allByWords(x)
		all, _ := hash.All(x)
		for at := range all {
			spoilBytes(all[at])
			for other := at + 1; other < len(all); other++ {
				if !bytes.Equal(all[other], want[other]) {
					t.Fatalf("the hashes %d and %d share memory", at, other)
				}
			}
		}
		b, _ := hash.Tree(x)
		spoilBytes(b)
		b, _ = hash.Without(x, len(x)/2, nil)
		spoilBytes(b)
		if !alike(x, before) {
			t.Fatalf("what is told shares memory with %s", drawing(before))
		}
		all, e := hash.All(x)
		areLists(t, "All, asked again", all, want, e)
	}
}

func TestP182Without(t *testing.T) {
	s := rand.New(rand.NewSource(2))
	for _, x := range rightTrees() {
		n := (len(x) + 1) / 2
		for range 4 {
			l := places(s.Intn(1 << min(n, 30)))
			before := fresh(x)
			want := allByWords(bare(x, l))
			for at := range x {
				b, e := hash.Without(x, at, l)
				isBytes(t, "Without of "+drawing(x), b, want[at], e)
			}
			if !alike(x, before) {
				t.Fatalf("changed to %s", drawing(x))
			}
		}
	}
}

// Each set of leaves' places, of each tree of four leaves that is great enough.
func TestP182WithoutEachOfFour(t *testing.T) {
	k := 0
	eachTree(4, func(x []api.Node) {
		k++
		if k%12 != 0 {
			return
		}
		for set := range 1 << 4 {
			want := allByWords(bare(x, places(set)))
			for at := range x {
				b, e := hash.Without(x, at, places(set))
				isBytes(t, "Without of "+drawing(x), b, want[at], e)
			}
		}
	})
	if k != 718 {
		t.Errorf("%d trees", k)
	}
}

func TestP182WithoutWrittenOut(t *testing.T) {
	x := with(wholly(2), 1, aParent(1, 0, 1))
	leaf := func(i int, n api.Node) []byte { return digest(leafTextByWords(i, n)) }
	root := func(p api.Node, l, r []byte) []byte { return digest(parentTextByWords(p, l, r)) }
	for _, y := range []struct {
		at     int
		places []int
		want   []byte
	}{
		{0, []int{0}, leaf(0, api.Node{})}, {0, []int{1}, leaf(0, x[0])}, {0, []int{2}, leaf(0, x[0])},
		{2, []int{1}, leaf(1, api.Node{})}, {2, []int{0, 2}, leaf(1, x[2])},
		{1, []int{0}, root(aParent(1, 1), leaf(0, api.Node{}), leaf(1, x[2]))},
		{1, []int{1}, root(aParent(1, 0), leaf(0, x[0]), leaf(1, api.Node{}))},
		{1, []int{1, 0}, root(aParent(1), leaf(0, api.Node{}), leaf(1, api.Node{}))},
		{1, []int{2, 3}, root(x[1], leaf(0, x[0]), leaf(1, x[2]))},
	} {
		b, e := hash.Without(x, y.at, y.places)
		isBytes(t, "Without", b, y.want, e)
	}
	b, e := hash.Without(some(1, 0), 0, []int{0})
	isBytes(t, "Without the only one", b, leaf(0, api.Node{}), e)
}

// Places may stand in any order, twice, and with numbers that are no leaf's.
func TestP182WithoutAnyNumbers(t *testing.T) {
	s := rand.New(rand.NewSource(3))
	for range 600 {
		x := drawn(s, 1<<s.Intn(5))
		n := (len(x) + 1) / 2
		l := places(s.Intn(1 << n))
		want := allByWords(bare(x, l))
		l = append(l, l[:s.Intn(len(l)+1)]...)
		far := notNodes(x)
		for range s.Intn(6) {
			l = append(l, far[s.Intn(len(far))], n+s.Intn(n), -1-s.Intn(2*n))
		}
		s.Shuffle(len(l), func(i, j int) { l[i], l[j] = l[j], l[i] })
		before := slices.Clone(l)
		for at := range x {
			b, e := hash.Without(x, at, l)
			isBytes(t, "Without of "+drawing(x), b, want[at], e)
		}
		if !slices.Equal(l, before) {
			t.Fatalf("the places were changed: %v, not %v", l, before)
		}
	}
}

func TestP182WithoutNothing(t *testing.T) {
	for _, x := range rightTrees() {
		all := allByWords(x)
		for at := range x {
			for _, l := range [][]int{nil, {}, notNodes(x), {-1}, {len(x)}, {(len(x) + 1) / 2}} {
				b, e := hash.Without(x, at, l)
				isBytes(t, "Without nothing", b, all[at], e)
			}
		}
	}
}

func TestP182WithoutOfNoNode(t *testing.T) {
	for _, x := range rightTrees()[:100] {
		for _, at := range notNodes(x) {
			b, e := hash.Without(x, at, []int{0})
			fails(t, "Without of no node", b, e, api.None)
			b, e = hash.Without(x, at, nil)
			fails(t, "Without of no node", b, e, api.None)
		}
	}
}

func TestP182GreatestTrees(t *testing.T) {
	x := greatest()
	want := allByWords(x)
	all, e := hash.All(x)
	areLists(t, "All of the greatest", all, want, e)
	b, e := hash.Tree(x)
	isBytes(t, "Tree of the greatest", b, want[mostLeaves-1], e)
	l := make([]int, 0, mostLeaves)
	for i := range mostLeaves {
		l = append(l, mostLeaves-1-i)
	}
	want = allByWords(make([]api.Node, len(x)))
	for at := range x {
		if x[at].Kind == 2 {
			n := x[at]
			n.Parent.Late = nil
			c := children(at)
			want[at] = digest(parentTextByWords(n, want[c[0]], want[c[1]]))
		}
	}
	b, e = hash.Without(x, 1, l)
	isBytes(t, "without all", b, want[1], e)
	b, e = hash.Without(x, 2*mostLeaves-2, l)
	isBytes(t, "without all", b, want[2*mostLeaves-2], e)
	b, e = hash.Tree(append(x, x...))
	fails(t, "Tree of one too great", b, e, api.Tree)
}

// greatest tells a tree of the most leaves, all of which are late of each
// parent.
func greatest() []api.Node {
	x, p := wholly(mostLeaves), aParent(1)
	all := make([]int, mostLeaves)
	for i := range all {
		all[i] = i
	}
	for y := 1; y < len(x); y += 2 {
		x[y] = p
		far := 1 << level(y)
		x[y].Parent.Late = all[(y+1-far)/2 : (y+1+far)/2]
	}
	return x
}

func BenchmarkTreeOfTheGreatest(b *testing.B) {
	x := wholly(mostLeaves)
	for b.Loop() {
		hash.Tree(x)
	}
}

func BenchmarkWithoutAll(b *testing.B) {
	x := greatest()
	for b.Loop() {
		hash.Without(x, mostLeaves-1, x[mostLeaves-1].Parent.Late)
	}
}
