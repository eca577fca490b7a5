package hash_test

import (
	"bytes"
	"math/rand"
	"slices"
	"testing"

	"ratline/api"
	"ratline/hash"
	"ratline/tree"
)

func TestP183Seen(t *testing.T) {
	for _, x := range rightTrees() {
		before := fresh(x)
		for p := range x {
			if x[p].Kind != 2 {
				continue
			}
			for _, c := range children(p) {
				b, e := hash.Seen(x, p, c)
				isBytes(t, "Seen of "+drawing(x), b, seenByWords(x, p, c), e)
				spoilBytes(b)
			}
		}
		if !alike(x, before) {
			t.Fatalf("changed to %s, or shared", drawing(x))
		}
	}
}

func TestP183SeenWrittenOut(t *testing.T) {
	leaf := func(i int, n api.Node) []byte { return digest(leafTextByWords(i, n)) }
	x := wholly(2)
	for _, y := range []struct {
		p           api.Node
		left, right api.Node
	}{
		{aParent(1), x[0], x[2]}, {aParent(2), x[0], x[2]}, {aParent(1, 0), api.Node{}, x[2]},
		{aParent(1, 1), x[0], api.Node{}}, {aParent(2, 0, 1), api.Node{}, api.Node{}},
	} {
		x[1] = y.p
		ahead := joined(vec(y.p.Parent.Box), vec(y.p.Parent.Hash), []byte{32})
		b, e := hash.Seen(x, 1, 0)
		isBytes(t, "seen from the left", b, digest(ahead, leaf(1, y.right)), e)
		b, e = hash.Seen(x, 1, 2)
		isBytes(t, "seen from the right", b, digest(ahead, leaf(0, y.left)), e)
	}
	// A late leaf is in no Late between, either.
	x = with(with(wholly(4), 3, aParent(1, 0, 2)), 5, aParent(3, 2, 3))
	b, e := hash.Seen(x, 3, 1)
	other := digest(parentTextByWords(aParent(3, 3), leaf(2, api.Node{}), leaf(3, x[6])))
	isBytes(t, "late of both", b, digest(vec(x[3].Parent.Box), vec(x[3].Parent.Hash), vec(other)), e)
}

func TestP183SeenFails(t *testing.T) {
	for _, x := range rightTrees()[100:] {
		for _, p := range append(notNodes(x), 0, 2*len(x)-1) {
			b, e := hash.Seen(x, p, 0)
			fails(t, "Seen of no node", b, e, api.None)
			b, e = hash.Seen(x, p, p)
			fails(t, "Seen of no node", b, e, api.None)
		}
		for p := range x {
			if x[p].Kind != 2 {
				for _, c := range append(children(p), -1, p) {
					b, e := hash.Seen(x, p, c)
					fails(t, "Seen of a leaf, or a blank one", b, e, api.None)
				}
				continue
			}
			for _, c := range append(notNodes(x), nodesBut(x, p)...) {
				b, e := hash.Seen(x, p, c)
				fails(t, "Seen from no child", b, e, api.Arg)
			}
		}
	}
	for _, x := range wrongTrees() {
		for _, p := range append(notNodes(x.tree), 0, 1, 3, 5) {
			for _, c := range []int{-1, 0, 1, 2, 5} {
				b, e := hash.Seen(x.tree, p, c)
				fails(t, "Seen, "+x.what, b, e, api.Tree)
			}
		}
	}
}

// nodesBut tells all nodes of a tree but a parent's children.
func nodesBut(t []api.Node, p int) []int {
	var l []int
	for x := range t {
		if !slices.Contains(children(p), x) {
			l = append(l, x)
		}
	}
	return l
}

// stands asks Stands of a tree, and tells what it is.
func stands(t *testing.T, x []api.Node) bool {
	t.Helper()
	want := standsByWords(x)
	if got := hash.Stands(x); got != want {
		t.Errorf("Stands of %s: %v", drawing(x), got)
	}
	return want
}

func TestP183StandsWithoutParents(t *testing.T) {
	for _, n := range []int{1, 2, 4, 8} {
		for set := 1 << (n / 2); set < 1<<n; set++ {
			if !hash.Stands(some(n, places(set)...)) {
				t.Fatalf("of %d leaves %v don't stand", n, places(set))
			}
		}
	}
}

func TestP183StandsOfWrongTrees(t *testing.T) {
	for _, x := range wrongTrees() {
		if hash.Stands(x.tree) {
			t.Errorf("%s: stands", x.what)
		}
	}
	// But for one leaf it would stand.
	x := renewed(wholly(4), 1, 5)
	if !hash.Stands(x) || hash.Stands(with(x, 6, aParent(1))) || hash.Stands(x[:6]) {
		t.Error("a tree that isn't right stands")
	}
}

// linked makes some node that a child of each parent resolves to bear its
// hash: of those that may, one by chance, or, now and then, of all.
func linked(s *rand.Rand, t []api.Node, x int) {
	if x%2 == 0 {
		return
	}
	c := children(x)
	if t[x].Kind == 0 {
		linked(s, t, c[0])
		linked(s, t, c[1])
		return
	}
	var may, all [][2]int
	for _, y := range c {
		late := lateLeaves(t, x, y)
		l := tree.Resolve(t, y)
		for _, d := range l {
			all = append(all, [2]int{y, d})
			if len(l) == 1+len(late) && !slices.Contains(late, d) {
				may = append(may, [2]int{y, d})
			}
		}
	}
	if len(may) == 0 || s.Intn(8) == 0 {
		may = all
	}
	from, d := c[0], -1
	if len(may) > 0 {
		k := s.Intn(len(may))
		from, d = may[k][0], may[k][1]
	}
	// What the other child comes to has to be known before.
	linked(s, t, 2*x-from)
	if d >= 0 {
		bear(t, d, seenByWords(t, x, from))
	}
	linked(s, t, from)
}

// bear makes a node bear a hash.
func bear(t []api.Node, d int, hash []byte) {
	if t[d].Kind == 1 {
		t[d].Leaf.Source = 3
	}
	*bears(&t[d]) = hash
}

func TestP183StandsOfEachSmallTree(t *testing.T) {
	s := rand.New(rand.NewSource(4))
	for n, least := range map[int]int{1: 1, 2: 10, 4: 500} {
		count := 0
		eachTree(n, func(x []api.Node) {
			for range 4 {
				y := fresh(x)
				linked(s, y, n-1)
				if stands(t, y) {
					count++
				}
			}
		})
		if count < least {
			t.Errorf("of %d leaves just %d trees stand", n, count)
		}
	}
}

func TestP183StandsOfGreaterTrees(t *testing.T) {
	s := rand.New(rand.NewSource(5))
	standing := 0
	for range 1500 {
		x := drawn(s, 4<<s.Intn(3))
		linked(s, x, len(x)/2)
		if stands(t, x) {
			standing++
		}
	}
	if standing < 150 || standing > 1350 {
		t.Errorf("%d of 1500 stand", standing)
	}
}

// What a member may have done stands; with one thing changed mostly it doesn't.
func TestP183StandsOfWhatLived(t *testing.T) {
	s := rand.New(rand.NewSource(6))
	fell := 0
	for k := range 300 {
		x := lived(s, 5+k%25)
		if !stands(t, x) {
			t.Fatalf("what lived doesn't stand: %s", drawing(x))
		}
		for range 4 {
			y := fresh(x)
			change(s, y)
			if !stands(t, y) {
				fell++
			}
		}
	}
	if fell < 500 {
		t.Errorf("just %d of 1200 fell", fell)
	}
}

// change makes something else of a node of a tree.
func change(s *rand.Rand, t []api.Node) {
	x := s.Intn(len(t))
	l := *lists(&t[x])[s.Intn(7)]
	switch late := t[x].Parent.Late; {
	case len(l) > 0:
		l[s.Intn(len(l))] ^= 1 << s.Intn(8)
	case t[x].Kind == 2 && s.Intn(2) == 0:
		late = append(late, s.Intn(len(t)/2+1))
		slices.Sort(late)
		t[x].Parent.Late = slices.Compact(late)
	case len(late) > 0:
		at := s.Intn(len(late))
		t[x].Parent.Late = slices.Delete(late, at, at+1)
	case x%2 == 0 && t[x].Kind == 0:
		t[x] = aMember(x)
	default:
		t[x] = api.Node{}
	}
}

// kept tells a tree in which the node d bears the hash of p, seen from c.
func kept(t []api.Node, p, c, d int) []api.Node {
	t = fresh(t)
	bear(t, d, seenByWords(t, p, c))
	return t
}

func TestP183StandsWrittenOut(t *testing.T) {
	two := func(late ...int) []api.Node { return with(wholly(2), 1, aParent(2, late...)) }
	four := func(late ...int) []api.Node { return with(wholly(4), 3, aParent(2, late...)) }
	one := with(some(2, 1), 1, aParent(2))
	both := with(four(), 1, aParent(4))
	for _, x := range []struct {
		what string
		tree []api.Node
		want bool
	}{
		{"borne by the left leaf", kept(two(), 1, 0, 0), true},
		{"borne by the right leaf", kept(two(), 1, 2, 2), true},
		{"borne by nobody", two(), false},
		{"seen from the right, borne by the left", kept(two(), 1, 2, 0), false},
		{"seen from the left, borne by the right", kept(two(), 1, 0, 2), false},
		{"borne by who is late", kept(two(0), 1, 0, 0), false},
		{"the other one is late", kept(two(1), 1, 0, 0), true},
		{"both are late", kept(two(0, 1), 1, 2, 2), false},
		{"borne by nobody beside a blank leaf", one, false},
		{"borne beside a blank leaf", kept(one, 1, 2, 2), true},
		{"a blank leaf's side is seen", kept(one, 1, 0, 2), false},
		{"with a further one beneath the child", kept(four(), 3, 1, 0), false},
		{"with a late one beneath the child", kept(four(1), 3, 1, 0), true},
		{"with a late one, which bears it", kept(four(1), 3, 1, 2), false},
		{"with a late one ahead", kept(four(0), 3, 1, 2), true},
		{"with late ones all over", kept(four(0, 2, 3), 3, 1, 2), true},
		{"with late ones of the other child alone", kept(four(2, 3), 3, 1, 0), false},
		{"all late beneath the child", kept(four(0, 1), 3, 1, 0), false},
		{"all late beneath the child, one beneath the other", kept(four(0, 1, 2), 3, 5, 6), true},
		{"of two parents the upper one's is borne", kept(both, 3, 1, 1), false},
		{"of two parents the lower one's is borne", kept(both, 1, 0, 0), false},
		{"of two parents both are borne", kept(kept(both, 3, 1, 1), 1, 0, 0), true},
		{"of two parents both are borne, but then the upper one's changed", kept(kept(both, 1, 0, 0), 3, 1, 1), false},
		{"of two parents both are borne by leaves", kept(kept(both, 3, 1, 0), 1, 0, 0), false},
		{"of two parents both are borne, the upper one's across", kept(kept(kept(both, 1, 0, 0), 3, 5, 4), 3, 5, 6), false},
	} {
		if got := hash.Stands(x.tree); got != x.want || standsByWords(x.tree) != x.want {
			t.Errorf("%s: %v", x.what, got)
		}
	}
}

func TestP183StandsOfTheGreatest(t *testing.T) {
	x := halfLate(mostLeaves)
	if !hash.Stands(x) {
		t.Error("the greatest doesn't stand")
	}
	x[2*mostLeaves-4].Leaf.Sig[0] ^= 1
	if hash.Stands(x) {
		t.Error("the greatest stands with another leaf")
	}
}

// halfLate tells a tree of n leaves that stands, and has no blank node: each
// other leaf is in each Late.
func halfLate(n int) []api.Node {
	t := wholly(n)
	for x := 1; x < len(t); x += 2 {
		t[x] = aParent(0)
		far := 1<<level(x) - 1
		for i := (x - far) / 2; i <= (x+far)/2; i++ {
			if i%2 == 1 {
				t[x].Parent.Late = append(t[x].Parent.Late, i)
			}
		}
	}
	chained(t, n-1)
	return t
}

// chained makes the left child of each parent from x on bear its hash, and
// tells the hash of x without those that are late.
func chained(t []api.Node, x int) []byte {
	switch {
	case x%4 == 2:
		return digest(leafTextByWords(x/2, api.Node{}))
	case x%4 == 0:
		return digest(leafTextByWords(x/2, t[x]))
	}
	n, c := t[x], children(x)
	right := chained(t, c[1])
	bear(t, c[0], digest(vec(n.Parent.Box), vec(n.Parent.Hash), vec(right)))
	n.Parent.Late = nil
	return digest(parentTextByWords(n, chained(t, c[0]), right))
}

func BenchmarkStandsOfTheGreatest(b *testing.B) {
	x := halfLate(mostLeaves)
	for b.Loop() {
		hash.Stands(x)
	}
}

// Of a hash with one bit changed nothing stands.
func TestP183StandsByEachBit(t *testing.T) {
	x := kept(with(wholly(2), 1, aParent(2)), 1, 0, 0)
	for k := range 256 {
		y := fresh(x)
		y[0].Leaf.Parent[k/8] ^= 1 << (k % 8)
		if hash.Stands(y) {
			t.Errorf("stands with the bit %d changed", k)
		}
	}
	y := fresh(x)
	y[0].Leaf.Parent = nil
	if hash.Stands(y) || !hash.Stands(x) || bytes.Equal(x[0].Leaf.Parent, aMember(0).Leaf.Parent) {
		t.Error("stands without a parent's hash")
	}
}
