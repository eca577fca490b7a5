package node_test

import (
	"bytes"
	"fmt"
	"math"
	"math/rand"
	"reflect"
	"testing"

	"ratline/api"
)

const (
	keySize    = 32
	sigSize    = 64
	mostIdent  = 64
	mostLeaves = 65536
)

// random tells n bytes, the same ones for the same seed.
func random(seed, n int) []byte {
	b := make([]byte, n)
	rand.New(rand.NewSource(int64(seed))).Read(b)
	return b
}

// vec tells the vector of v, laid out here anew.
func vec(v []byte) []byte {
	n := len(v)
	switch {
	case n < 64:
		return append([]byte{byte(n)}, v...)
	case n < 16384:
		return append([]byte{0x40 | byte(n>>8), byte(n)}, v...)
	}
	return append([]byte{0x80 | byte(n>>24), byte(n >> 16), byte(n >> 8), byte(n)}, v...)
}

// four tells numbers as four bytes each.
func four(l ...int) []byte {
	var b []byte
	for _, x := range l {
		b = append(b, byte(x>>24), byte(x>>16), byte(x>>8), byte(x))
	}
	return b
}

// cat tells all parts in one row.
func cat(parts ...[]byte) []byte {
	return bytes.Join(parts, nil)
}

// rawLeaf lays a leaf's fields down, whether it is right or not.
func rawLeaf(l api.Leaf) []byte {
	return cat(rawUnsigned(l), vec(l.Sig))
}

func rawUnsigned(l api.Leaf) []byte {
	b := cat(vec(l.Box), vec(l.Sign), vec(l.Ident), []byte{l.Source})
	if l.Source == 3 {
		b = cat(b, vec(l.Parent))
	}
	return b
}

// rawParent lays a parent's fields down, whether it is right or not.
func rawParent(p api.Parent) []byte {
	return cat(vec(p.Box), vec(p.Hash), vec(four(p.Late...)))
}

// raw lays down what a node's kind uses.
func raw(n api.Node) []byte {
	switch n.Kind {
	case 1:
		return cat([]byte{1}, rawLeaf(n.Leaf))
	case 2:
		return cat([]byte{2}, rawParent(n.Parent))
	}
	return []byte{n.Kind}
}

// aLeaf tells a right leaf of some source, whose fields are all unlike.
func aLeaf(source uint8) api.Leaf {
	l := api.Leaf{Box: random(1, keySize), Sign: random(2, keySize), Ident: []byte("ada"), Source: source, Sig: random(4, sigSize)}
	if source == 3 {
		l.Parent = random(3, keySize)
	}
	return l
}

func aParent(late ...int) api.Parent {
	return api.Parent{Box: random(5, keySize), Hash: random(6, keySize), Late: late}
}

// everyPlace tells all places that a leaf can have.
func everyPlace() []int {
	l := make([]int, mostLeaves)
	for i := range l {
		l[i] = i
	}
	return l
}

// rightLeaves tells leaves that are right, at their edges too.
func rightLeaves() []api.Leaf {
	var l []api.Leaf
	for source := uint8(1); source <= 3; source++ {
		for _, n := range []int{1, 2, 63, mostIdent} {
			x := aLeaf(source)
			x.Ident = random(7, n)
			l = append(l, x)
		}
	}
	bare := aLeaf(3)
	bare.Parent = nil
	none := aLeaf(2)
	none.Parent = []byte{}
	noughts := api.Leaf{Box: make([]byte, keySize), Sign: make([]byte, keySize), Ident: []byte{0}, Source: 1, Sig: make([]byte, sigSize)}
	return append(l, bare, none, noughts)
}

// rightParents tells parents that are right, at their edges too.
func rightParents() []api.Parent {
	root := aParent(7)
	root.Hash = nil
	bare := api.Parent{Box: make([]byte, keySize), Hash: []byte{}, Late: []int{}}
	return []api.Parent{
		root, bare, aParent(), aParent(0), aParent(mostLeaves - 1), aParent(0, mostLeaves-1), aParent(1, 258, 772),
		aParent(everyPlace()[:15]...), aParent(everyPlace()[:16]...), aParent(everyPlace()[:4095]...),
		aParent(everyPlace()[:4096]...), aParent(everyPlace()...),
	}
}

// rightNodes tells nodes that are right.
func rightNodes() []api.Node {
	l := []api.Node{{}, {Kind: 0, Leaf: api.Leaf{Box: []byte{}, Sig: []byte{}}, Parent: api.Parent{Late: []int{}}}}
	for _, x := range rightLeaves() {
		l = append(l, api.Node{Kind: 1, Leaf: x}, api.Node{Kind: 1, Leaf: x, Parent: api.Parent{Hash: []byte{}, Late: []int{}}})
	}
	for _, x := range rightParents() {
		l = append(l, api.Node{Kind: 2, Parent: x}, api.Node{Kind: 2, Parent: x, Leaf: api.Leaf{Box: []byte{}, Ident: []byte{}}})
	}
	return l
}

// wrongLeaf is a leaf with one fault.
type wrongLeaf struct {
	what string
	leaf api.Leaf
	// unsaid tells that the fault isn't to be seen in the bytes.
	unsaid bool
}

func wrongLeaves() []wrongLeaf {
	var l []wrongLeaf
	for source := uint8(1); source <= 3; source++ {
		fault := func(what string, put func(x *api.Leaf)) {
			x := aLeaf(source)
			put(&x)
			l = append(l, wrongLeaf{what, x, source != 3 && len(x.Parent) > 0})
		}
		for _, n := range []int{0, 1, 16, 31, 33, 64, 16384} {
			fault("Box", func(x *api.Leaf) { x.Box = random(8, n) })
			fault("Sign", func(x *api.Leaf) { x.Sign = random(8, n) })
		}
		for _, n := range []int{0, 65, 66, 128, 1 << 16} {
			fault("Ident", func(x *api.Leaf) { x.Ident = random(8, n) })
		}
		for _, n := range []int{1, 16, 31, 33, 64} {
			fault("Parent", func(x *api.Leaf) { x.Parent = random(8, n) })
		}
		for _, n := range []int{0, 1, 32, 63, 65, 128} {
			fault("Sig", func(x *api.Leaf) { x.Sig = random(8, n) })
		}
		for _, s := range []uint8{0, 4, 5, 129, 255} {
			fault("Source", func(x *api.Leaf) { x.Source, x.Parent = s, nil })
		}
		if source != 3 {
			fault("Parent of another source", func(x *api.Leaf) { x.Parent = random(8, keySize) })
		}
	}
	return l
}

// wrongParents tells parents with one fault each.
func wrongParents() []api.Parent {
	var l []api.Parent
	for _, n := range []int{0, 1, 31, 33, 64} {
		p := aParent(1, 2)
		p.Box = random(8, n)
		l = append(l, p)
	}
	for _, n := range []int{1, 16, 31, 33, 64} {
		p := aParent(1, 2)
		p.Hash = random(8, n)
		l = append(l, p)
	}
	for _, late := range wrongLate() {
		l = append(l, aParent(late...))
	}
	return append(l, aParent(append(everyPlace(), 0)...), aParent(append(everyPlace(), mostLeaves)...))
}

// wrongLate tells numbers that aren't places that rise. Each of them is below
// 2^32, so that it can be told by four bytes.
func wrongLate() [][]int {
	return [][]int{
		{0, 0}, {2, 2}, {3, 2}, {1, 0}, {1, 3, 2}, {1, 2, 2}, {5, 6, 5}, {mostLeaves}, {0, mostLeaves}, {mostLeaves - 1, mostLeaves},
		{mostLeaves + 1}, {1 << 17}, {1 << 31}, {1<<32 - 1}, {7, 1 << 31}, {mostLeaves, 1}, {mostLeaves - 1, 0},
	}
}

// beyond tells numbers that are no places, some of which are one modulo a power of two.
func beyond() []int {
	return []int{
		-1, -2, -mostLeaves, mostLeaves, mostLeaves + 1, mostLeaves + 3, 1 << 17, 1 << 31, -1 << 31, 1 << 32, 1<<32 + 3,
		-1<<32 + 3, math.MaxInt, math.MinInt, math.MinInt + 3,
	}
}

// isNoLeaf tells whether a leaf is the zero one.
func isNoLeaf(l api.Leaf) bool {
	return len(l.Box)+len(l.Sign)+len(l.Ident)+len(l.Parent)+len(l.Sig) == 0 && l.Source == 0
}

func isNoNode(n api.Node) bool {
	p := n.Parent
	return n.Kind == 0 && isNoLeaf(n.Leaf) && len(p.Box)+len(p.Hash)+len(p.Late) == 0
}

// alike tells whether two values have the same fields; an empty list is an empty list.
func alike(a, b any) bool {
	return reflect.DeepEqual(emptied(reflect.ValueOf(a)).Interface(), emptied(reflect.ValueOf(b)).Interface())
}

// fresh tells the same value in new memory.
func fresh[T any](v T) T {
	return emptied(reflect.ValueOf(v)).Interface().(T)
}

// emptied tells a value in new memory, in which all empty lists are nil.
func emptied(v reflect.Value) reflect.Value {
	out := reflect.New(v.Type()).Elem()
	switch v.Kind() {
	case reflect.Struct:
		for i := range v.NumField() {
			out.Field(i).Set(emptied(v.Field(i)))
		}
	case reflect.Slice:
		if v.Len() > 0 {
			out.Set(reflect.MakeSlice(v.Type(), v.Len(), v.Len()))
			reflect.Copy(out, v)
		}
	default:
		out.Set(v)
	}
	return out
}

// spoil changes all that stands in a value's lists, and behind them, as far as
// their memory reaches.
func spoil(v any) {
	spoilValue(reflect.ValueOf(v))
}

func spoilValue(v reflect.Value) {
	switch v.Kind() {
	case reflect.Struct:
		for i := range v.NumField() {
			spoilValue(v.Field(i))
		}
	case reflect.Slice:
		whole := v.Slice(0, v.Cap())
		for i := range whole.Len() {
			x := whole.Index(i)
			if x.CanInt() {
				x.SetInt(^x.Int())
			} else {
				x.SetUint(^x.Uint() & 0xFF)
			}
		}
	}
}

// standsApart changes what stands behind each list of a value, and asks that no
// other list of it changes.
func standsApart[T any](t *testing.T, what string, v T) {
	t.Helper()
	before := fresh(v)
	eachList(reflect.ValueOf(v), func(l reflect.Value) {
		behind := l.Slice(l.Len(), l.Cap())
		spoilValue(behind)
		if !alike(v, before) {
			t.Errorf("%s: two lists share memory", what)
		}
		spoilValue(behind)
	})
}

func eachList(v reflect.Value, do func(l reflect.Value)) {
	switch v.Kind() {
	case reflect.Struct:
		for i := range v.NumField() {
			eachList(v.Field(i), do)
		}
	case reflect.Slice:
		do(v)
	}
}

func same(t *testing.T, what string, got, want []byte) {
	t.Helper()
	if !bytes.Equal(got, want) {
		t.Errorf("%s: %s, not %s", what, short(got), short(want))
	}
}

// short tells the beginning of a value, which may be long.
func short(v any) string {
	text := fmt.Sprintf("%+v", v)
	if b, ok := v.([]byte); ok {
		text = fmt.Sprintf("% x", b)
	}
	return text[:min(len(text), 400)]
}
