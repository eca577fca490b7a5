package node_test

import (
	"bytes"
	"math/rand"
	"testing"

	"ratline/api"
	"ratline/node"
	"ratline/wire"
)

// drawn tells a right node by chance.
func drawn(s *rand.Rand) api.Node {
	some := func(n int) []byte {
		b := make([]byte, n)
		s.Read(b)
		return b
	}
	n := api.Node{Kind: uint8(s.Intn(3))}
	switch n.Kind {
	case 1:
		n.Leaf = api.Leaf{Box: some(keySize), Sign: some(keySize), Ident: some(1 + s.Intn(mostIdent)), Source: uint8(1 + s.Intn(3)), Sig: some(sigSize)}
		if n.Leaf.Source == 3 {
			n.Leaf.Parent = some(keySize * s.Intn(2))
		}
	case 2:
		n.Parent = api.Parent{Box: some(keySize), Hash: some(keySize * s.Intn(2))}
		for at := s.Intn(50); at < mostLeaves && s.Intn(30) > 0; at += 1 + s.Intn(1+s.Intn(5000)) {
			n.Parent.Late = append(n.Parent.Late, at)
		}
	}
	return n
}

func TestP165WhatIsTakenOfItsBytesIsIt(t *testing.T) {
	s := rand.New(rand.NewSource(1))
	l := rightNodes()
	for range 3000 {
		l = append(l, drawn(s))
	}
	for _, n := range l {
		b, e := node.Bytes(n)
		if e != api.OK {
			t.Fatalf("Bytes: %s, %v", short(n), e)
		}
		if got, e := node.Of(b); e != api.OK || !node.Same(got, n) {
			t.Errorf("Of its bytes: %s, %v, not %s", short(got), e, short(n))
		}
		if n.Kind == 1 {
			b, _ = node.LeafBytes(n.Leaf)
			r := wire.NewReader(b)
			got, e := node.TakeLeaf(r)
			if e != api.OK || r.End() != api.OK || !node.Same(api.Node{Leaf: got}, api.Node{Leaf: n.Leaf}) {
				t.Errorf("TakeLeaf of its bytes: %s, %v, not %s", short(got), e, short(n.Leaf))
			}
		}
	}
}

// broken is what stops a parser ahead of the end.
type broken api.Err

// parsed tells what stands next in bytes, and what is left behind it: the
// document's words once more, in another shape.
func parsed(b []byte) (n api.Node, left []byte, e api.Err) {
	defer func() {
		if x, ok := recover().(broken); ok {
			n, left, e = api.Node{}, nil, api.Err(x)
		}
	}()
	take := func(n int) []byte {
		if n > len(b) {
			panic(broken(api.End))
		}
		v := b[:n]
		b = b[n:]
		return v
	}
	vector := func() []byte {
		if len(b) == 0 {
			panic(broken(api.End))
		}
		size := []int{1, 2, 4, 0}[b[0]/64]
		if size == 0 {
			panic(broken(api.Form))
		}
		n := 0
		for i, x := range take(size) {
			if i == 0 {
				x %= 64
			}
			n = 256*n + int(x)
		}
		if size == 2 && n < 64 || size == 4 && n < 16384 {
			panic(broken(api.Form))
		}
		return take(n)
	}
	ask := func(right bool) {
		if !right {
			panic(broken(api.Form))
		}
	}
	n.Kind = take(1)[0]
	ask(n.Kind < 3)
	if n.Kind == 1 {
		l := api.Leaf{Box: vector(), Sign: vector(), Ident: vector(), Source: take(1)[0]}
		ask(l.Source > 0 && l.Source < 4)
		if l.Source == 3 {
			l.Parent = vector()
		}
		l.Sig = vector()
		ask(len(l.Box) == 32 && len(l.Sign) == 32 && len(l.Ident) > 0 && len(l.Ident) < 65 && len(l.Parent)%32 == 0 && len(l.Parent) < 33 && len(l.Sig) == 64)
		n.Leaf = l
	}
	if n.Kind == 2 {
		p := api.Parent{Box: vector(), Hash: vector()}
		late := vector()
		ask(len(p.Box) == 32 && len(p.Hash)%32 == 0 && len(p.Hash) < 33 && len(late)%4 == 0)
		for i := 0; i < len(late); i += 4 {
			x := int(late[i])<<24 | int(late[i+1])<<16 | int(late[i+2])<<8 | int(late[i+3])
			ask(x < 65536 && (i == 0 || x > p.Late[i/4-1]))
			p.Late = append(p.Late, x)
		}
		n.Parent = p
	}
	return n, b, api.OK
}

// asParsed asks Of and Take of the same bytes, and that what is taken has these very bytes.
func asParsed(t *testing.T, b []byte) {
	t.Helper()
	want, left, e := parsed(b)
	r := wire.NewReader(b)
	n, got := node.Take(r)
	if got != e || !alike(n, want) || e == api.OK && r.Left() != len(left) {
		t.Fatalf("Take of %s: %s, %v, Left %d, not %s, %v, Left %d", short(b), short(n), got, r.Left(), short(want), e, len(left))
	}
	if e == api.OK {
		back, e := node.Bytes(n)
		if e != api.OK || !bytes.Equal(back, b[:len(b)-len(left)]) {
			t.Fatalf("Bytes of what is taken: %s, %v, not %s", short(back), e, short(b))
		}
	}
	if e == api.OK && len(left) > 0 {
		want, e = api.Node{}, api.More
	}
	if n, got := node.Of(b); got != e || !alike(n, want) {
		t.Fatalf("Of %s: %s, %v, not %v", short(b), short(n), got, e)
	}
}

func TestP165TheBytesOfWhatIsTakenAreThey(t *testing.T) {
	s := rand.New(rand.NewSource(2))
	for range 60000 {
		b := raw(drawn(s))
		for range s.Intn(3) {
			switch i := s.Intn(len(b)); s.Intn(4) {
			case 0:
				b[i] ^= 1 << s.Intn(8)
			case 1:
				b[i] = byte(s.Intn(256))
			case 2:
				b = append(b[:i+1], b[i:]...)
			case 3:
				b = b[:max(1, i)]
			}
		}
		asParsed(t, b)
	}
}

func TestP165EachByteAnother(t *testing.T) {
	for _, n := range []api.Node{{}, {Kind: 1, Leaf: aLeaf(1)}, {Kind: 1, Leaf: aLeaf(3)}, {Kind: 2, Parent: aParent(1, 2, 258)}} {
		whole := raw(n)
		for i := range whole {
			for x := range 256 {
				b := bytes.Clone(whole)
				b[i] = byte(x)
				asParsed(t, b)
			}
		}
	}
}
