package node_test

import (
	"bytes"
	"testing"

	"ratline/api"
	"ratline/node"
	"ratline/wire"
)

// takesLeaf asks for a leaf, and for how many bytes are left behind it.
func takesLeaf(t *testing.T, b []byte, want api.Leaf, left int) {
	t.Helper()
	r := wire.NewReader(b)
	l, e := node.TakeLeaf(r)
	if e != api.OK || !alike(l, want) || r.Left() != left || r.Err() != api.OK {
		t.Errorf("TakeLeaf: %s, %v, Left %d, Err %v, not %s, Left %d", short(l), e, r.Left(), r.Err(), short(want), left)
	}
}

func takes(t *testing.T, b []byte, want api.Node, left int) {
	t.Helper()
	r := wire.NewReader(b)
	n, e := node.Take(r)
	if e != api.OK || !alike(n, want) || r.Left() != left || r.Err() != api.OK {
		t.Errorf("Take: kind %d, %v, Left %d, Err %v, not kind %d, Left %d", n.Kind, e, r.Left(), r.Err(), want.Kind, left)
	}
}

// leafFails asks for an error, and for how many bytes are left behind what was read.
func leafFails(t *testing.T, what string, b []byte, want api.Err, left int) {
	t.Helper()
	r := wire.NewReader(b)
	l, e := node.TakeLeaf(r)
	if e != want || !isNoLeaf(l) || r.Left() != left {
		t.Errorf("TakeLeaf, %s: %s, %v, Left %d, not %v, Left %d", what, short(l), e, r.Left(), want, left)
	}
	// A Form of what was read isn't the reader's own error.
	if want == api.End && r.Err() != api.End {
		t.Errorf("TakeLeaf, %s: the reader's Err %v", what, r.Err())
	}
}

// fails asks Take and Of for the same error.
func fails(t *testing.T, what string, b []byte, want api.Err, left int) {
	t.Helper()
	r := wire.NewReader(b)
	n, e := node.Take(r)
	if e != want || !isNoNode(n) || r.Left() != left {
		t.Errorf("Take, %s: %s, %v, Left %d, not %v, Left %d", what, short(n), e, r.Left(), want, left)
	}
	n, e = node.Of(b)
	if e != want || !isNoNode(n) {
		t.Errorf("Of, %s: %s, %v, not %v", what, short(n), e, want)
	}
}

func TestP162RightLeaves(t *testing.T) {
	for _, l := range rightLeaves() {
		b := rawLeaf(l)
		takesLeaf(t, b, l, 0)
		takesLeaf(t, cat(b, []byte{0xC0}), l, 1)
		takesLeaf(t, cat(b, b), l, len(b))
	}
}

func TestP162RightNodes(t *testing.T) {
	for _, n := range rightNodes() {
		b := raw(n)
		takes(t, b, n, 0)
		takes(t, cat(b, []byte{0xC0}), n, 1)
		takes(t, cat(b, b), n, len(b))
		got, e := node.Of(b)
		if e != api.OK || !alike(got, n) {
			t.Errorf("Of kind %d: %v", n.Kind, e)
		}
		for _, more := range [][]byte{{0}, {0xC0}, b} {
			if got, e := node.Of(cat(b, more)); e != api.More || !isNoNode(got) {
				t.Errorf("Of kind %d with more: %s, %v", n.Kind, short(got), e)
			}
		}
	}
}

func TestP162OneBehindTheOther(t *testing.T) {
	var b []byte
	for _, n := range rightNodes() {
		b = append(b, raw(n)...)
	}
	r := wire.NewReader(b)
	for _, want := range rightNodes() {
		if n, e := node.Take(r); e != api.OK || !alike(n, want) {
			t.Errorf("Take: kind %d, %v, not kind %d", n.Kind, e, want.Kind)
		}
	}
	if r.End() != api.OK {
		t.Errorf("End: %v", r.End())
	}
	if n, e := node.Take(r); e != api.End || !isNoNode(n) {
		t.Errorf("Take at the end: %s, %v", short(n), e)
	}
}

// What a vector or a number lacks isn't taken, so that just what stands ahead of it is.
func TestP162Short(t *testing.T) {
	for _, n := range []api.Node{{Kind: 1, Leaf: aLeaf(1)}, {Kind: 1, Leaf: aLeaf(2)}, {Kind: 1, Leaf: aLeaf(3)}, {Kind: 2, Parent: aParent(1, 2, 3)}} {
		b := raw(n)
		for i := range b {
			left := leftOf(n, i)
			fails(t, "cut short", b[:i], api.End, left)
			if n.Kind == 1 && i > 0 {
				leafFails(t, "cut short", b[1:i], api.End, left)
			}
		}
	}
	leafFails(t, "nothing", nil, api.End, 0)
	fails(t, "nothing", nil, api.End, 0)
}

// leftOf tells how many of a node's first i bytes are those of a field that isn't whole.
func leftOf(n api.Node, i int) int {
	fields := [][]byte{{n.Kind}}
	if n.Kind == 1 {
		l := n.Leaf
		fields = append(fields, vec(l.Box), vec(l.Sign), vec(l.Ident), []byte{l.Source})
		if l.Source == 3 {
			fields = append(fields, vec(l.Parent))
		}
		fields = append(fields, vec(l.Sig))
	} else {
		fields = append(fields, vec(n.Parent.Box), vec(n.Parent.Hash), vec(four(n.Parent.Late...)))
	}
	for _, f := range fields {
		if i < len(f) {
			break
		}
		i -= len(f)
	}
	return i
}

func TestP162WrongLeaves(t *testing.T) {
	for _, x := range wrongLeaves() {
		if x.unsaid {
			continue
		}
		b, left := rawLeaf(x.leaf), 0
		if x.what == "Source" {
			left = len(vec(x.leaf.Sig))
		}
		leafFails(t, x.what, b, api.Form, left)
		leafFails(t, x.what, cat(b, []byte{1}), api.Form, left+1)
		fails(t, x.what, cat([]byte{1}, b), api.Form, left)
		fails(t, x.what, cat([]byte{1}, b, []byte{1}), api.Form, left+1)
	}
	// A parent's hash can't stand in a leaf of another source: it is taken as the signature.
	for source := uint8(1); source <= 2; source++ {
		l := aLeaf(source)
		b := cat(rawUnsigned(l), vec(random(3, keySize)), vec(l.Sig))
		leafFails(t, "a parent's hash", b, api.Form, len(vec(l.Sig)))
	}
}

func TestP162WrongParents(t *testing.T) {
	for _, p := range wrongParents() {
		fails(t, "a wrong parent", raw(api.Node{Kind: 2, Parent: p}), api.Form, 0)
		fails(t, "a wrong parent, and more", cat(raw(api.Node{Kind: 2, Parent: p}), []byte{1}), api.Form, 1)
	}
	fails(t, "a late one at 2^32 - 1", cat([]byte{2}, rawParent(aParent(-1))), api.Form, 0)
}

func TestP162LateThatIsNotFourByFour(t *testing.T) {
	all := four(1, 2, 3, 4, 5)
	for i := range len(all) + 1 {
		p := aParent()
		b := cat([]byte{2}, vec(p.Box), vec(p.Hash), vec(all[:i]))
		if i%4 != 0 {
			fails(t, "Late that isn't four by four", b, api.Form, 0)
			fails(t, "Late of noughts", cat([]byte{2}, vec(p.Box), vec(p.Hash), vec(make([]byte, i))), api.Form, 0)
			continue
		}
		takes(t, b, api.Node{Kind: 2, Parent: aParent([]int{1, 2, 3, 4, 5}[:i/4]...)}, 0)
	}
	long := four(everyPlace()...)
	for more := 1; more < 4; more++ {
		p := aParent()
		fails(t, "a long Late that isn't four by four", cat([]byte{2}, vec(p.Box), vec(p.Hash), vec(append(long, make([]byte, more)...))), api.Form, 0)
	}
}

func TestP162OtherKinds(t *testing.T) {
	for kind := 3; kind < 256; kind++ {
		k := []byte{byte(kind)}
		fails(t, "such a kind", k, api.Form, 0)
		fails(t, "such a kind with a leaf", cat(k, rawLeaf(aLeaf(1))), api.Form, len(rawLeaf(aLeaf(1))))
		fails(t, "such a kind with what is no vector", cat(k, []byte{0xC0}), api.Form, 1)
	}
}

// A source that can't be is told as soon as it is read, ahead of what is wrong
// behind it; what is wrong ahead of it is told at the end alone.
func TestP162OrderInALeaf(t *testing.T) {
	l := aLeaf(1)
	ahead := cat(vec(l.Box), vec(l.Sign), vec(l.Ident))
	for source := range 256 {
		if source >= 1 && source <= 3 {
			continue
		}
		s := []byte{byte(source)}
		for _, behind := range [][]byte{nil, {1}, {0xC0}, {5, 1}, vec(l.Sig)} {
			leafFails(t, "such a source", cat(ahead, s, behind), api.Form, len(behind))
			fails(t, "such a source", cat([]byte{1}, ahead, s, behind), api.Form, len(behind))
		}
	}
	for _, x := range []struct {
		what  string
		ahead []byte
	}{
		{"Box", cat(vec(l.Box[:31]), vec(l.Sign), vec(l.Ident))},
		{"Sign", cat(vec(l.Box), vec(nil), vec(l.Ident))},
		{"Ident", cat(vec(l.Box), vec(l.Sign), vec(nil))},
	} {
		leafFails(t, x.what+", and nothing behind it", x.ahead, api.End, 0)
		leafFails(t, x.what+", and a source that can't be", cat(x.ahead, []byte{0, 5}), api.Form, 1)
		leafFails(t, x.what+", and no signature", cat(x.ahead, []byte{1}), api.End, 0)
		leafFails(t, x.what+", and half a signature", cat(x.ahead, []byte{2, 0x40, 64, 1}), api.End, 3)
		leafFails(t, x.what+", and no parent's hash", cat(x.ahead, []byte{3}), api.End, 0)
		leafFails(t, x.what+", and no signature behind a parent's hash", cat(x.ahead, []byte{3, 0}), api.End, 0)
		leafFails(t, x.what+", and a length that can't be", cat(x.ahead, []byte{1, 0x40, 1, 7}), api.Form, 3)
		leafFails(t, x.what+", and a signature", cat(x.ahead, []byte{1}, vec(l.Sig)), api.Form, 0)
	}
	leafFails(t, "a parent's hash of 31 bytes, and no signature", cat(ahead, []byte{3}, vec(make([]byte, 31))), api.End, 0)
}

func TestP162OrderInAParent(t *testing.T) {
	p := aParent(2, 1)
	fails(t, "Box, and nothing behind it", cat([]byte{2}, vec(p.Box[:31])), api.End, 0)
	fails(t, "Box, and no Late", cat([]byte{2}, vec(p.Box[:31]), vec(p.Hash)), api.End, 0)
	fails(t, "Hash, and no Late", cat([]byte{2}, vec(p.Box), vec(p.Hash[:31])), api.End, 0)
	fails(t, "Hash, and half of Late", cat([]byte{2}, vec(p.Box), vec(p.Hash[:31]), []byte{8, 0, 0, 0, 1}), api.End, 5)
	fails(t, "a length that can't be", cat([]byte{2}, vec(p.Box), vec(p.Hash), []byte{0xC0, 0, 0}), api.Form, 3)
	fails(t, "a length with a shorter way", cat([]byte{2}, vec(p.Box), []byte{0x40, 1, 9}, vec(nil)), api.Form, 4)
}

func TestP162NoReader(t *testing.T) {
	if l, e := node.TakeLeaf(nil); e != api.Nil || !isNoLeaf(l) {
		t.Errorf("TakeLeaf of no reader: %s, %v", short(l), e)
	}
	if n, e := node.Take(nil); e != api.Nil || !isNoNode(n) {
		t.Errorf("Take of no reader: %s, %v", short(n), e)
	}
	if l, e := node.TakeLeaf(new(wire.Reader)); e != api.End || !isNoLeaf(l) {
		t.Errorf("TakeLeaf of a reader of nothing: %s, %v", short(l), e)
	}
	if n, e := node.Take(new(wire.Reader)); e != api.End || !isNoNode(n) {
		t.Errorf("Take of a reader of nothing: %s, %v", short(n), e)
	}
	for _, b := range [][]byte{nil, {}} {
		if n, e := node.Of(b); e != api.End || !isNoNode(n) {
			t.Errorf("Of no bytes: %s, %v", short(n), e)
		}
	}
}

func TestP162ReadersOwnError(t *testing.T) {
	for _, b := range [][]byte{nil, {0}, {3}, raw(api.Node{Kind: 1, Leaf: aLeaf(1)}), rawLeaf(aLeaf(3))} {
		for _, x := range []struct {
			err  api.Err
			make func(r *wire.Reader)
		}{
			{api.Arg, func(r *wire.Reader) { r.Num(3) }},
			{api.End, func(r *wire.Reader) { r.Take(1000) }},
		} {
			r := wire.NewReader(b)
			x.make(r)
			if n, e := node.Take(r); e != x.err || !isNoNode(n) || r.Left() != len(b) {
				t.Errorf("Take behind an error: %s, %v, not %v", short(n), e, x.err)
			}
			if l, e := node.TakeLeaf(r); e != x.err || !isNoLeaf(l) || r.Left() != len(b) {
				t.Errorf("TakeLeaf behind an error: %s, %v, not %v", short(l), e, x.err)
			}
		}
	}
	r := wire.NewReader([]byte{9})
	r.Flag()
	if n, e := node.Take(r); e != api.Form || !isNoNode(n) {
		t.Errorf("Take behind Form: %s, %v", short(n), e)
	}
}

// An error of what was taken isn't kept by the reader, whose bytes were all right.
func TestP162ReaderGoesOn(t *testing.T) {
	r := wire.NewReader(cat([]byte{3}, raw(api.Node{Kind: 2, Parent: aParent(2, 1)}), []byte{0, 7}))
	for i, want := range []api.Err{api.Form, api.Form, api.OK} {
		if _, e := node.Take(r); e != want || r.Err() != api.OK {
			t.Errorf("Take %d: %v, Err %v, not %v", i, e, r.Err(), want)
		}
	}
	if r.Num(1) != 7 || r.End() != api.OK {
		t.Errorf("End: %v", r.End())
	}
}

func TestP162NewMemory(t *testing.T) {
	for _, want := range rightNodes() {
		whole := raw(want)
		b := bytes.Clone(whole)
		n, _ := node.Of(b)
		standsApart(t, "Of", n)
		spoil(b)
		if !alike(n, want) {
			t.Errorf("Of kind %d keeps the bytes", n.Kind)
		}
		b = bytes.Clone(whole)
		n, _ = node.Of(b)
		spoil(n)
		same(t, "what was handed in", b, whole)

		r := wire.NewReader(cat(whole, whole))
		first, _ := node.Take(r)
		spoil(first)
		if second, e := node.Take(r); e != api.OK || !alike(second, want) {
			t.Errorf("Take of kind %d shares the reader's bytes: %v", want.Kind, e)
		}
	}
}

func BenchmarkOfAllLate(b *testing.B) {
	all, _ := node.Bytes(api.Node{Kind: 2, Parent: aParent(everyPlace()...)})
	for range b.N {
		node.Of(all)
	}
}
