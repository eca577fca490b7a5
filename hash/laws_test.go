package hash_test

import (
	"bytes"
	"math/rand"
	"testing"

	"ratline/api"
	"ratline/hash"
	"ratline/node"
	"ratline/sha"
	"ratline/tree"
	"ratline/wire"
)

// All these trees are unlike each other, and so are their hashes.
func TestP184UnlikeTreesHaveUnlikeHashes(t *testing.T) {
	seen := map[string][]api.Node{}
	count := 0
	add := func(x []api.Node) {
		b, e := hash.Tree(x)
		if was, ok := seen[string(b)]; ok || e != api.OK {
			t.Fatalf("%v: %s has the hash of %s", e, drawing(x), drawing(was))
		}
		seen[string(b)] = fresh(x)
		count++
	}
	for _, n := range []int{1, 2, 4} {
		eachTree(n, add)
	}
	// A tree doesn't come to what its left half does, nor to what it does with
	// others at other places.
	for n := 8; n <= 512; n *= 2 {
		add(some(n, 0, n-1))
		add(some(n, 1, n-1))
		add(some(n, 0, n-2))
		add(wholly(n))
	}
	if count != 1+8+718+7*4 {
		t.Errorf("%d trees", count)
	}
}

// A change of one thing of a node changes just its hash and those of all nodes
// above it.
func TestP184WhatChanges(t *testing.T) {
	s := rand.New(rand.NewSource(7))
	changed := 0
	for range 3000 {
		x := drawn(s, 1<<s.Intn(5))
		y := fresh(x)
		change(s, y)
		before, _ := hash.All(x)
		after, e := hash.All(y)
		if e != api.OK || tree.Same(x, y) {
			continue
		}
		changed++
		for at := range x {
			same := true
			for other := range x {
				same = same && (!under(other, at) || node.Same(x[other], y[other]))
			}
			if bytes.Equal(before[at], after[at]) != same {
				t.Fatalf("the hash of %d of %s is the same: %v; changed to %s", at, drawing(x), !same, drawing(y))
			}
		}
	}
	if changed < 1500 {
		t.Errorf("just %d of 3000 were changed", changed)
	}
}

// told tells the tree that a hash is of, by the texts of all digests that are
// known. If it couldn't, two trees might have one hash and yet no two texts
// one digest.
func told(t *testing.T, texts map[string][]byte, hash []byte) []api.Node {
	t.Helper()
	text, ok := texts[string(hash)]
	if !ok {
		t.Fatalf("no text has the digest %s", short(hash))
	}
	r := wire.NewReader(text)
	mark, at := r.Num(1), uint64(0)
	if mark == 1 {
		at = r.Num(4)
	}
	n, e := node.Take(r)
	l := []api.Node{n}
	if mark == 2 {
		left, right := r.Vec(), r.Vec()
		l = append(told(t, texts, left), n)
		l = append(l, told(t, texts, right)...)
	} else if n.Kind == 2 || mark != 1 || at >= mostLeaves {
		t.Fatalf("a text with the mark %d, at %d: %s", mark, at, short(n))
	}
	if e != api.OK || r.End() != api.OK {
		t.Fatalf("a text that can't be read: %v, %v", e, r.End())
	}
	return l
}

func TestP184TheTreeIsToldByItsHash(t *testing.T) {
	// The texts of all trees stand together: none of them is another one's.
	texts := map[string][]byte{}
	var hashes [][]byte
	l := rightTrees()
	for _, x := range l {
		all, _ := hash.All(x)
		for at := range x {
			text, e := hash.LeafText(at/2, x[at])
			if at%2 == 1 {
				c := children(at)
				text, e = hash.ParentText(x[at], all[c[0]], all[c[1]])
			}
			if e != api.OK || !bytes.Equal(sha.Of(text), all[at]) {
				t.Fatalf("the hash of %d of %s isn't its text's: %v", at, drawing(x), e)
			}
			texts[string(all[at])] = text
		}
		hashes = append(hashes, all[len(x)/2])
	}
	for k, x := range l {
		if got := told(t, texts, hashes[k]); !tree.Same(got, x) {
			t.Fatalf("told %s, not %s", drawing(got), drawing(x))
		}
	}
}

// No text of a leaf's place is that of another place, or of another node.
func TestP184UnlikeTexts(t *testing.T) {
	seen := map[string]bool{}
	add := func(text []byte, e api.Err) {
		if e != api.OK || seen[string(text)] {
			t.Fatalf("%v: twice the text %s", e, short(text))
		}
		seen[string(text)] = true
	}
	for i := range mostLeaves {
		add(hash.LeafText(i, api.Node{}))
	}
	for _, i := range []int{0, 1, 2, 65535} {
		for seed := range 50 {
			add(hash.LeafText(i, aMember(seed)))
		}
	}
	a, b := random(1, 32), random(2, 32)
	for _, h := range [][2][]byte{{a, a}, {a, b}, {b, a}, {b, b}} {
		add(hash.ParentText(api.Node{}, h[0], h[1]))
		for set := range 1 << 6 {
			add(hash.ParentText(aParent(1, places(set)...), h[0], h[1]))
			add(hash.ParentText(aParent(2, places(set)...), h[0], h[1]))
		}
	}
}
