package node_test

import (
	"bytes"
	"crypto/ed25519"
	"math"
	"testing"

	"ratline/api"
	"ratline/node"
)

// aSeed tells the seed whose public key the leaves of signing have.
func aSeed() []byte {
	return random(11, keySize)
}

// signing tells leaves that are right but for their signatures, with the key of aSeed.
func signing() []api.Leaf {
	l := rightLeaves()
	for i := range l {
		l[i].Sign = ed25519.NewKeyFromSeed(aSeed()).Public().(ed25519.PublicKey)
	}
	return l
}

// text tells what is signed of a leaf, laid out here anew.
func text(l api.Leaf, group []byte, at int) []byte {
	b := rawUnsigned(l)
	if l.Source != 1 {
		b = cat(b, vec(group), four(at))
	}
	return cat(vec([]byte("MLS 1.0 LeafNodeTBS")), vec(b))
}

// signed tells a leaf with a signature that was made elsewhere, whether it is right or not.
func signed(l api.Leaf, seed, group []byte, at int) api.Leaf {
	l.Sig = ed25519.Sign(ed25519.NewKeyFromSeed(seed), text(l, group, at))
	return l
}

func groups() [][]byte {
	return [][]byte{nil, {}, []byte("g"), random(12, 63), random(12, 64), random(12, 20000)}
}

func places() []int {
	return []int{0, 1, 3, 258, 32768, mostLeaves - 1}
}

func checks(t *testing.T, what string, l api.Leaf, group []byte, at int, want bool) {
	t.Helper()
	if got := node.CheckLeaf(l, group, at); got != want {
		t.Errorf("CheckLeaf, %s, source %d at %d: %v", what, l.Source, at, got)
	}
}

func TestP164SignLeaf(t *testing.T) {
	for i, l := range signing() {
		group, at := groups()[i%len(groups())], places()[i%len(places())]
		want := signed(l, aSeed(), group, at)
		// The signature that it comes with plays no part.
		for _, sig := range [][]byte{l.Sig, nil, {1}, random(13, 65), random(13, 1000)} {
			l.Sig = sig
			got, e := node.SignLeaf(l, aSeed(), group, at)
			if e != api.OK || !alike(got, want) {
				t.Errorf("SignLeaf, source %d at %d: %s, %v, not %s", l.Source, at, short(got), e, short(want))
			}
			checks(t, "signed", got, group, at, true)
		}
	}
}

func TestP164EachGroupAndPlace(t *testing.T) {
	for source := uint8(2); source <= 3; source++ {
		l := aLeaf(source)
		l.Sign = signing()[0].Sign
		for _, group := range groups() {
			for _, at := range places() {
				want := signed(l, aSeed(), group, at)
				if got, e := node.SignLeaf(l, aSeed(), group, at); e != api.OK || !alike(got, want) {
					t.Errorf("SignLeaf, source %d at %d: %v", source, at, e)
				}
			}
		}
		x := signed(l, aSeed(), []byte("g"), 3)
		checks(t, "its own", x, []byte("g"), 3, true)
		for _, at := range places() {
			checks(t, "another place", x, []byte("g"), at, at == 3)
		}
		for _, group := range groups() {
			checks(t, "another group", x, group, 3, string(group) == "g")
		}
		checks(t, "a longer group", x, []byte("g\x00"), 3, false)
	}
}

// Of a package's leaf neither the group nor the place plays a part.
func TestP164OfAPackage(t *testing.T) {
	l := aLeaf(1)
	l.Sign = signing()[0].Sign
	want := signed(l, aSeed(), nil, 0)
	for _, group := range groups() {
		for _, at := range append(places(), beyond()...) {
			if got, e := node.SignLeaf(l, aSeed(), group, at); e != api.OK || !alike(got, want) {
				t.Errorf("SignLeaf, source 1 at %d: %v", at, e)
			}
		}
	}
	for _, at := range append(places(), beyond()...) {
		checks(t, "of a package", want, []byte("g"), at, true)
	}
}

// The key of the seed needn't be the leaf's own; the signature holds under the leaf's.
func TestP164AnotherSeed(t *testing.T) {
	l := signing()[5]
	other := random(14, keySize)
	got, e := node.SignLeaf(l, other, []byte("g"), 3)
	if e != api.OK || !alike(got, signed(l, other, []byte("g"), 3)) {
		t.Errorf("SignLeaf by another seed: %v", e)
	}
	checks(t, "by another seed", got, []byte("g"), 3, false)
}

func refuses(t *testing.T, what string, l api.Leaf, seed []byte, at int, want api.Err) {
	t.Helper()
	if got, e := node.SignLeaf(l, seed, []byte("g"), at); e != want || !isNoLeaf(got) {
		t.Errorf("SignLeaf, %s at %d: %s, %v, not %v", what, at, short(got), e, want)
	}
}

func TestP164Form(t *testing.T) {
	for _, x := range wrongLeaves() {
		if x.what == "Sig" {
			continue
		}
		// Form is told ahead of a place and of a seed that can't be.
		for _, at := range []int{3, -1, mostLeaves} {
			refuses(t, x.what, x.leaf, aSeed(), at, api.Form)
			refuses(t, x.what, x.leaf, nil, at, api.Form)
		}
	}
	refuses(t, "no leaf", api.Leaf{}, aSeed(), 3, api.Form)
}

func TestP164Arg(t *testing.T) {
	for _, l := range signing() {
		for _, n := range []int{0, 1, 31, 33, 64} {
			for _, at := range []int{0, 3, mostLeaves - 1} {
				refuses(t, "such a seed", l, random(11, n), at, api.Arg)
			}
		}
		if l.Source == 1 {
			refuses(t, "no seed of a package", l, nil, -1, api.Arg)
			continue
		}
		for _, at := range beyond() {
			refuses(t, "such a place", l, aSeed(), at, api.Arg)
		}
	}
}

// Signatures that were made for places that can't be don't hold there.
func TestP164CheckPlace(t *testing.T) {
	for source := uint8(2); source <= 3; source++ {
		l := aLeaf(source)
		l.Sign = signing()[0].Sign
		for _, at := range append(beyond(), math.MinInt32, math.MaxInt32) {
			checks(t, "a place that can't be", signed(l, aSeed(), []byte("g"), at), []byte("g"), at, false)
		}
	}
}

// Signatures of leaves that aren't right don't hold either.
func TestP164CheckRight(t *testing.T) {
	for _, x := range wrongLeaves() {
		l := x.leaf
		if x.what != "Sign" {
			l.Sign = signing()[0].Sign
		}
		if x.what != "Sig" {
			l = signed(l, aSeed(), []byte("g"), 3)
		}
		checks(t, x.what, l, []byte("g"), 3, false)
	}
	checks(t, "no leaf", api.Leaf{}, nil, 0, false)

	l := signed(signing()[5], aSeed(), []byte("g"), 3)
	whole := l.Sig
	for _, n := range []int{0, 1, 32, 63} {
		l.Sig = whole[:n]
		checks(t, "less of its signature", l, []byte("g"), 3, false)
	}
	l.Sig = append(bytes.Clone(whole), 0)
	checks(t, "more than its signature", l, []byte("g"), 3, false)
}

func TestP164CheckChanged(t *testing.T) {
	for _, source := range []uint8{1, 2, 3} {
		made := func() api.Leaf {
			l := aLeaf(source)
			l.Sign = bytes.Clone(signing()[0].Sign)
			return signed(l, aSeed(), []byte("g"), 3)
		}
		l := made()
		checks(t, "as it was signed", l, []byte("g"), 3, true)
		for _, b := range [][]byte{l.Box, l.Sign, l.Ident, l.Parent, l.Sig} {
			for _, at := range []int{0, len(b) / 2, len(b) - 1} {
				if len(b) > 0 {
					b[at] ^= 1
					checks(t, "with another bit", l, []byte("g"), 3, false)
					b[at] ^= 1
				}
			}
			checks(t, "as it was signed", l, []byte("g"), 3, true)
		}
		for s := uint8(1); s <= 3; s++ {
			l := made()
			l.Source = s
			if s != 3 {
				l.Parent = nil
			}
			checks(t, "with another source", l, []byte("g"), 3, s == source)
		}
		l = made()
		l.Ident = []byte("ad")
		checks(t, "with less of its name", l, []byte("g"), 3, false)
	}
	l := aLeaf(3)
	l.Sign = signing()[0].Sign
	l = signed(l, aSeed(), []byte("g"), 3)
	l.Parent = nil
	checks(t, "without its parent's hash", l, []byte("g"), 3, false)
}

// A signature of another purpose doesn't hold: neither one without the label, nor one with another label.
func TestP164CheckLabel(t *testing.T) {
	l := signing()[5]
	key := ed25519.NewKeyFromSeed(aSeed())
	body := cat(rawUnsigned(l), vec([]byte("g")), four(3))
	for _, b := range [][]byte{body, cat(vec([]byte("LeafNodeTBS")), vec(body)), cat(vec([]byte("MLS 1.0 KeyPackageTBS")), vec(body))} {
		l.Sig = ed25519.Sign(key, b)
		checks(t, "of another purpose", l, []byte("g"), 3, false)
	}
	l.Sig = ed25519.Sign(key, cat(vec([]byte("MLS 1.0 LeafNodeTBS")), vec(body)))
	checks(t, "of this purpose", l, []byte("g"), 3, true)
}

func TestP164NewMemory(t *testing.T) {
	for i, l := range signing() {
		seed, group := aSeed(), []byte("g")
		want := fresh(signed(l, seed, group, 3))
		before := signing()[i]
		got, _ := node.SignLeaf(l, seed, group, 3)
		standsApart(t, "SignLeaf", got)
		spoil(got)
		if !alike(l, before) {
			t.Errorf("SignLeaf shares what was handed in")
		}
		got, _ = node.SignLeaf(l, seed, group, 3)
		node.CheckLeaf(l, group, 3)
		if !alike(l, before) || string(group) != "g" || !bytes.Equal(seed, aSeed()) {
			t.Errorf("what was handed in isn't what it was")
		}
		spoil(l)
		spoil(seed)
		spoil(group)
		if !alike(got, want) {
			t.Errorf("SignLeaf keeps what was handed in")
		}
	}
}

func BenchmarkCheckLeaf(b *testing.B) {
	l := signed(signing()[5], aSeed(), []byte("g"), 3)
	for range b.N {
		node.CheckLeaf(l, []byte("g"), 3)
	}
}
