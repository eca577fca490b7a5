package tree_test

import (
	"bytes"
	"math/rand"
	"slices"
	"testing"

	"ratline/api"
	"ratline/node"
	"ratline/tree"
)

// vec tells the vector of v, laid out here anew.
func vec(v []byte) []byte {
	n := len(v)
	switch {
	case n < 64:
		return append([]byte{byte(n)}, v...)
	case n < 16384:
		return append([]byte{0x40 | byte(n>>8), byte(n)}, v...)
	}
	return append([]byte{0x80 | byte(n>>24), byte(n >> 16), byte(n >> 8), byte(n)}, v...)
}

// raw tells the bytes of nodes, one behind the other.
func raw(l ...api.Node) []byte {
	var all []byte
	for _, n := range l {
		b, e := node.Bytes(n)
		if e != api.OK {
			panic("not right: " + short(n))
		}
		all = append(all, b...)
	}
	return all
}

// bytesByWords tells a tree's bytes.
func bytesByWords(t []api.Node) []byte {
	last := 0
	for x := range t {
		if t[x].Kind != 0 {
			last = x
		}
	}
	return vec(raw(t[:last+1]...))
}

func bytesFail(t *testing.T, what string, x []api.Node, want api.Err) {
	t.Helper()
	if b, e := tree.Bytes(x); e != want || len(b) != 0 {
		t.Errorf("Bytes, %s: %s, %v, not %v", what, short(b), e, want)
	}
}

func ofFails(t *testing.T, what string, b []byte, want api.Err) {
	t.Helper()
	if got, e := tree.Of(b); e != want || len(got) != 0 {
		t.Errorf("Of, %s: %s, %v, not %v", what, drawing(got), e, want)
	}
}

func TestP173WrittenOut(t *testing.T) {
	ada, bob, eve := raw(aMember("ada")), raw(aMember("bob")), raw(aMember("eve"))
	p := raw(aParent(1))
	for _, x := range []struct {
		what string
		tree []api.Node
		want [][]byte
	}{
		{"one", []api.Node{aMember("ada")}, [][]byte{ada}},
		{"two", []api.Node{aMember("ada"), {}, aMember("bob")}, [][]byte{ada, {0}, bob}},
		{"the second of two", []api.Node{{}, {}, aMember("bob")}, [][]byte{{0, 0}, bob}},
		{"with a parent", []api.Node{aMember("ada"), aParent(1), aMember("bob")}, [][]byte{ada, p, bob}},
		{"three, with a blank end", []api.Node{aMember("ada"), {}, aMember("bob"), aParent(1), aMember("eve"), {}, {}}, [][]byte{ada, {0}, bob, p, eve}},
		{"three, with a parent at the end", []api.Node{{}, {}, aMember("bob"), {}, aMember("eve"), aParent(), {}}, [][]byte{{0, 0}, bob, {0}, eve, raw(aParent())}},
		{"the last of four", []api.Node{{}, {}, {}, {}, {}, {}, aMember("ada")}, [][]byte{{0, 0, 0, 0, 0, 0}, ada}},
		{"the third of four", []api.Node{{}, {}, {}, {}, aMember("ada"), {}, {}}, [][]byte{{0, 0, 0, 0}, ada}},
	} {
		want := vec(bytes.Join(x.want, nil))
		if b, e := tree.Bytes(x.tree); e != api.OK || !bytes.Equal(b, want) {
			t.Errorf("Bytes of %s: %s, %v, not %s", x.what, short(b), e, short(want))
		}
		got, e := tree.Of(want)
		isTree(t, "Of the bytes of "+x.what, got, x.tree, e)
	}
}

func TestP173AsWords(t *testing.T) {
	for _, x := range rightTrees() {
		before, want := fresh(x), bytesByWords(x)
		b, e := tree.Bytes(x)
		if e != api.OK || !bytes.Equal(b, want) {
			t.Errorf("Bytes of %s: %s, %v", drawing(x), short(b), e)
		}
		got, e := tree.Of(want)
		isTree(t, "Of its bytes", got, x, e)
		if !alike(x, before) {
			t.Fatalf("changed to %s", drawing(x))
		}
	}
}

func TestP173WrongTrees(t *testing.T) {
	for _, x := range wrongTrees() {
		bytesFail(t, x.what, x.tree, api.Tree)
	}
}

// sized tells a tree of 6000 members whose bytes are as many.
func sized(size int) []api.Node {
	const members = 6000
	t := make([]api.Node, 2*8192-1)
	// Four bytes tell the length, the parents between have one each.
	size -= 4 + members - 1
	for i := range members {
		m := aMember("ada")
		m.Leaf.Source, m.Leaf.Parent = 1, nil
		// Beside its name a leaf has 135 bytes, with the length of the name.
		m.Leaf.Ident = make([]byte, size/(members-i)-135)
		size -= 135 + len(m.Leaf.Ident)
		t[2*i] = m
	}
	return t
}

func TestP173Large(t *testing.T) {
	for size := mostBytes - 2; size <= mostBytes+2; size++ {
		x := sized(size)
		whole := bytesByWords(x)
		if len(whole) != size {
			t.Fatalf("%d bytes, not %d", len(whole), size)
		}
		if size > mostBytes {
			bytesFail(t, "too many", x, api.Large)
			ofFails(t, "too many", whole, api.Large)
			continue
		}
		if b, e := tree.Bytes(x); e != api.OK || !bytes.Equal(b, whole) {
			t.Errorf("Bytes, %d of them: %d, %v", size, len(b), e)
		}
		got, e := tree.Of(whole)
		isTree(t, "Of so many", got, x, e)
	}
	bytesFail(t, "65536 members", wholly(mostLeaves), api.Large)
}

// More bytes than may be are refused, whatever they are.
func TestP173LargeAheadOfAll(t *testing.T) {
	one := vec(raw(aMember("ada")))
	for _, b := range [][]byte{
		make([]byte, mostBytes+1), bytes.Repeat([]byte{0xC0}, mostBytes+1), bytes.Repeat([]byte{3}, mostBytes+1),
		vec(make([]byte, mostBytes-3)), append(one, make([]byte, mostBytes+1-len(one))...), make([]byte, 3*mostBytes),
	} {
		ofFails(t, "too many", b, api.Large)
	}
	ofFails(t, "noughts", make([]byte, mostBytes), api.More)
	ofFails(t, "no length", bytes.Repeat([]byte{0xC0}, mostBytes), api.Form)
	ofFails(t, "blank ones", vec(make([]byte, mostBytes-4)), api.Form)
	ofFails(t, "one, and noughts", append(one, make([]byte, mostBytes-len(one))...), api.More)
}

func TestP173TheVector(t *testing.T) {
	whole := bytesByWords(some(4, 0, 3))
	for n := range whole {
		ofFails(t, "cut short", whole[:n], api.End)
	}
	ofFails(t, "nil", nil, api.End)
	for _, more := range [][]byte{{0}, {1}, {0xC0}, whole} {
		ofFails(t, "more behind", append(bytes.Clone(whole), more...), api.More)
	}
	for _, x := range []struct {
		b    []byte
		want api.Err
	}{
		{[]byte{0xC0}, api.Form}, {[]byte{0xFF, 0, 0, 0}, api.Form}, {[]byte{0x40, 1, 0}, api.Form},
		{[]byte{0x80, 0, 0, 1, 0}, api.Form}, {[]byte{0x40}, api.End}, {[]byte{1}, api.End}, {[]byte{0x80, 0, 0x40}, api.End},
		// What is wrong with the vector is told ahead of what is in it.
		{[]byte{2, 3}, api.End}, {[]byte{1, 3, 0}, api.More}, {[]byte{0, 3}, api.More}, {[]byte{1, 0, 0}, api.More},
	} {
		ofFails(t, short(x.b), x.b, x.want)
	}
}

func TestP173TheNodes(t *testing.T) {
	ada, bob, p := raw(aMember("ada")), raw(aMember("bob")), raw(aParent())
	cat := func(parts ...[]byte) []byte { return bytes.Join(parts, nil) }
	wrong := cat([]byte{1, 31}, ada[2:33], ada[34:])
	for _, x := range []struct {
		what string
		b    []byte
		want api.Err
	}{
		{"none", nil, api.Form},
		{"a blank one", []byte{0}, api.Form},
		{"a blank one at the end", cat(ada, []byte{0}), api.Form},
		{"a whole tree with blank ones at its end", cat(ada, []byte{0}, bob, []byte{0, 0, 0, 0}), api.Form},
		{"a kind that can't be", []byte{3}, api.Form},
		{"a kind that can't be behind others", cat(ada, []byte{255}), api.Form},
		{"a leaf that isn't right", wrong, api.Form},
		{"half a leaf", ada[:20], api.End},
		{"half a leaf behind others", cat(ada, []byte{0}, bob[:len(bob)-1]), api.End},
		{"half a leaf behind blank ones", cat(make([]byte, 200), bob[:1]), api.End},
		{"half a parent", cat(ada, p[:len(p)-1]), api.End},
		{"a kind that can't be, and half a leaf", cat([]byte{3}, ada[:20]), api.Form},
		{"half a leaf of a wrong tree", cat(p, ada[:20]), api.End},
		{"a blank one behind a wrong tree", cat(p, []byte{0}), api.Form},
		{"a parent alone", p, api.Tree},
		{"a parent at the end of the left half", cat(ada, p), api.Tree},
		{"a parent at the end of the left half of four", cat(ada, []byte{0}, bob, p), api.Tree},
		{"two leaves side by side", cat(ada, bob), api.Tree},
		{"a leaf at a parent's place", cat(ada, bob, ada), api.Tree},
		{"a parent at a leaf's place", cat(ada, p, p), api.Tree},
		{"a late one that is blank", cat([]byte{0}, raw(aParent(0)), bob), api.Tree},
		{"a late one beyond", cat(ada, raw(aParent(2)), bob), api.Tree},
		{"no leaf in the right half but a parent", cat(ada, []byte{0}, bob, []byte{0}, []byte{0}, p), api.Tree},
	} {
		ofFails(t, x.what, vec(x.b), x.want)
	}
}

func TestP173AsSmallAsMayBe(t *testing.T) {
	for _, n := range []int{1, 2, 4, 8, 64, 1024, mostLeaves} {
		for _, at := range []int{n / 2, (n/2 + n) / 2, n - 1} {
			b := vec(append(make([]byte, 2*at), raw(aMember("ada"))...))
			x, e := tree.Of(b)
			if want := 2*n - 1; e != api.OK || len(x) != want || x[2*at].Kind != 1 {
				t.Errorf("a member at %d: %d nodes, %v, not %d", at, len(x), e, want)
			}
			if got, e := tree.Bytes(x); e != api.OK || !bytes.Equal(got, b) {
				t.Errorf("Bytes of a member at %d: %v", at, e)
			}
		}
	}
}

func TestP173TooManyNodes(t *testing.T) {
	ada, p := raw(aMember("ada")), raw(aParent())
	blanks := func(n int, behind []byte) []byte { return vec(append(make([]byte, n), behind...)) }
	const most = 2*mostLeaves - 1
	ofFails(t, "the last node a parent", blanks(most-1, p), api.Tree)
	ofFails(t, "the last node blank", blanks(most, nil), api.Form)
	ofFails(t, "one more, a parent", blanks(most, p), api.Large)
	ofFails(t, "one more, a leaf", blanks(most, ada), api.Large)
	ofFails(t, "two more", blanks(most+1, ada), api.Large)
	ofFails(t, "one more, blank", blanks(most+1, nil), api.Form)
	ofFails(t, "a tree, and one more that is blank", blanks(most-1, append(bytes.Clone(ada), 0)), api.Form)
	ofFails(t, "a tree, and one more", blanks(most-1, append(bytes.Clone(ada), p...)), api.Large)
	ofFails(t, "far more", blanks(1<<20-4-len(ada), ada), api.Large)
	ofFails(t, "far more, and half a leaf", blanks(1<<20-4-50, ada[:50]), api.End)
}

// ofByWords tells the tree of bytes, with what is told of the vector's own
// bytes by Of of node alone.
func ofByWords(b []byte) ([]api.Node, api.Err) {
	inside := b[1:]
	if b[0]>>6 == 1 {
		inside = b[2:]
	}
	var t []api.Node
	for len(inside) > 0 {
		// A node ends as soon as what is behind it is more.
		n, e, size := api.Node{}, api.End, 0
		for k := 1; k <= len(inside) && e == api.End; k++ {
			n, e = node.Of(inside[:k])
			size = k
		}
		if e != api.OK {
			return nil, e
		}
		t, inside = append(t, n), inside[size:]
	}
	if len(t) == 0 || t[len(t)-1].Kind == 0 {
		return nil, api.Form
	}
	for len(t)&(len(t)+1) != 0 {
		t = append(t, api.Node{})
	}
	if !rightByWords(t) {
		return nil, api.Tree
	}
	return t, api.OK
}

func TestP173OfBytesByChance(t *testing.T) {
	s := rand.New(rand.NewSource(3))
	for range 4000 {
		l := drawn(s, 1<<s.Intn(4))
		for len(l) > 0 && l[len(l)-1].Kind == 0 {
			l = l[:len(l)-1]
		}
		for range s.Intn(3) {
			switch at := s.Intn(len(l)); s.Intn(3) {
			case 0:
				l = slices.Delete(slices.Clone(l), at, at+1)
			case 1:
				l = slices.Insert(slices.Clone(l), at, api.Node{})
			case 2:
				l = with(l, at, l[s.Intn(len(l))])
			}
			if len(l) == 0 {
				l = []api.Node{{}}
			}
		}
		inside := raw(l...)
		if s.Intn(3) == 0 {
			inside[s.Intn(len(inside))] ^= 1 << s.Intn(8)
		}
		b := vec(inside)
		want, e := ofByWords(b)
		got, f := tree.Of(b)
		if e != f || !alike(got, want) {
			t.Fatalf("Of the bytes of %s: %s, %v, not %v", drawing(l), drawing(got), f, e)
		}
	}
}

func TestP173NewMemory(t *testing.T) {
	for _, untouched := range rightTrees() {
		whole := bytesByWords(untouched)
		x := fresh(untouched)
		b, _ := tree.Bytes(x)
		spoilBytes(b)
		if !alike(x, untouched) {
			t.Fatalf("Bytes shares memory with %s", drawing(untouched))
		}
		b, _ = tree.Bytes(x)
		spoil(x)
		if !bytes.Equal(b, whole) {
			t.Fatalf("Bytes keeps %s", drawing(untouched))
		}
		x, _ = tree.Of(b)
		standsApart(t, "Of", x)
		spoil(x)
		if !bytes.Equal(b, whole) {
			t.Fatalf("Of shares memory with the bytes of %s", drawing(untouched))
		}
		x, _ = tree.Of(b)
		spoilBytes(b)
		if !alike(x, untouched) {
			t.Fatalf("Of keeps the bytes of %s", drawing(untouched))
		}
	}
}

func BenchmarkOfManyBlank(b *testing.B) {
	l := vec(append(make([]byte, 1<<20-1000), raw(aMember("ada"))...))
	for range b.N {
		tree.Of(l)
	}
}
