package hash_test

import (
	"bytes"
	"math"
	"testing"

	"ratline/api"
	"ratline/hash"
)

func isBytes(t *testing.T, what string, got, want []byte, e api.Err) {
	t.Helper()
	if e != api.OK || !bytes.Equal(got, want) {
		t.Errorf("%s: %s, %v, not %s", what, short(got), e, short(want))
	}
}

func fails(t *testing.T, what string, got []byte, e, want api.Err) {
	t.Helper()
	if e != want || len(got) != 0 {
		t.Errorf("%s: %s, %v, not %v", what, short(got), e, want)
	}
}

func TestP181LeafTextOfTheExample(t *testing.T) {
	b, e := hash.LeafText(2, api.Node{})
	isBytes(t, "a blank leaf at 2", b, []byte{1, 0, 0, 0, 2, 0}, e)
	b, e = hash.LeafText(0, api.Node{})
	isBytes(t, "a blank leaf at 0", b, []byte{1, 0, 0, 0, 0, 0}, e)
	b, e = hash.LeafText(65535, api.Node{})
	isBytes(t, "a blank leaf at 65535", b, []byte{1, 0, 0, 255, 255, 0}, e)
}

func TestP181LeafText(t *testing.T) {
	for _, i := range []int{0, 1, 2, 3, 255, 256, 257, 4095, 32768, 65534, 65535} {
		for _, n := range []api.Node{{}, {Leaf: api.Leaf{Ident: []byte{}}}, aMember(0), aMember(1), aMember(2), aMember(3)} {
			before := freshNode(n)
			b, e := hash.LeafText(i, n)
			isBytes(t, "LeafText", b, leafTextByWords(i, n), e)
			spoilBytes(b)
			if !alike([]api.Node{n}, []api.Node{before}) {
				t.Errorf("LeafText of %s: changed, or shared", short(before))
			}
		}
	}
}

func TestP181LeafTextFails(t *testing.T) {
	wrong := append(wrongNodes(), aParent(0), aParent(1), aParent(1, 0, 1))
	for _, i := range []int{-1, -2, -65536, mostLeaves, mostLeaves + 1, 2 * mostLeaves, 1 << 32, 1<<32 + 1, math.MaxInt, math.MinInt} {
		for _, n := range append(wrong, api.Node{}, aMember(0), aMember(1)) {
			b, e := hash.LeafText(i, n)
			fails(t, "a place that can't be", b, e, api.Arg)
		}
	}
	for _, i := range []int{0, 1, 65535} {
		for _, n := range wrong {
			b, e := hash.LeafText(i, n)
			fails(t, "LeafText of "+short(n), b, e, api.Form)
		}
	}
}

func TestP181ParentText(t *testing.T) {
	late := make([]int, mostLeaves)
	for i := range late {
		late[i] = i
	}
	left, right := random(1, 32), random(2, 32)
	for _, n := range []api.Node{{}, {Parent: api.Parent{Late: []int{}}}, aParent(0), aParent(1), aParent(1, 0), aParent(2, 1, 65535), aParent(3, late[:16]...), aParent(3, late...)} {
		before := freshNode(n)
		b, e := hash.ParentText(n, left, right)
		isBytes(t, "ParentText", b, parentTextByWords(n, left, right), e)
		spoilBytes(b)
		if !alike([]api.Node{n}, []api.Node{before}) || !bytes.Equal(left, random(1, 32)) || !bytes.Equal(right, random(2, 32)) {
			t.Errorf("ParentText of %s: changed, or shared", short(before))
		}
	}
}

func TestP181ParentTextOfABlankNode(t *testing.T) {
	l, r := bytes.Repeat([]byte{5}, 32), bytes.Repeat([]byte{6}, 32)
	b, e := hash.ParentText(api.Node{}, l, r)
	isBytes(t, "a blank one", b, joined([]byte{2, 0, 32}, l, []byte{32}, r), e)
	b, e = hash.ParentText(api.Node{}, l, l)
	isBytes(t, "twice the same hash", b, joined([]byte{2, 0, 32}, l, []byte{32}, l), e)
}

// What stands behind a hash, in memory that is its own, isn't written on.
func TestP181ParentTextWritesOnNothing(t *testing.T) {
	memory := random(1, 256)
	b, e := hash.ParentText(aParent(1), memory[:32], memory[64:96])
	isBytes(t, "ParentText", b, parentTextByWords(aParent(1), random(1, 256)[:32], random(1, 256)[64:96]), e)
	if !bytes.Equal(memory, random(1, 256)) {
		t.Error("written on what was handed in")
	}
}

func TestP181ParentTextFails(t *testing.T) {
	ok := random(1, 32)
	sizes := []int{0, 1, 31, 33, 63, 64, 96, 1 << 20}
	for _, n := range append(wrongNodes(), aMember(0), aMember(1), aMember(2)) {
		for _, size := range append(sizes, 32) {
			b, e := hash.ParentText(n, random(1, size), ok)
			fails(t, "ParentText of "+short(n), b, e, api.Form)
			b, e = hash.ParentText(n, nil, random(1, size))
			fails(t, "ParentText of "+short(n), b, e, api.Form)
		}
	}
	for _, n := range []api.Node{{}, aParent(0), aParent(1, 3, 4)} {
		for _, size := range sizes {
			b, e := hash.ParentText(n, random(1, size), ok)
			fails(t, "such a left hash", b, e, api.Arg)
			b, e = hash.ParentText(n, ok, random(1, size))
			fails(t, "such a right hash", b, e, api.Arg)
			b, e = hash.ParentText(n, random(1, size), random(2, 64-min(size, 64)))
			fails(t, "two such hashes", b, e, api.Arg)
		}
		b, e := hash.ParentText(n, nil, ok)
		fails(t, "no left hash", b, e, api.Arg)
		b, e = hash.ParentText(n, ok, nil)
		fails(t, "no right hash", b, e, api.Arg)
	}
}
