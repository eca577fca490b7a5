package hpke_test

import (
	"bytes"
	"strings"
	"testing"

	"ratline/api"
	"ratline/hpke"
)

// names are labels, some of which aren't texts.
var names = []string{
	"", "a", "UpdatePathNode", "Welcome", " ", "MLS 1.0 ", "MLS 1.0", "a ", " a",
	"\x00", "a\x00b", "\xff\xfe", "schlüssel", "\x09MLS 1.0 a",
}

// lengths are those about the ends of vectors, with the 8 bytes ahead of a label and
// without them.
var lengths = []int{0, 1, 54, 55, 56, 57, 62, 63, 64, 65, 200, 1<<14 - 9, 1<<14 - 8, 1<<14 - 7, 1<<14 - 1, 1 << 14}

// vec tells a vector's bytes, laid together by hand.
func vec(v string) string {
	n := len(v)
	switch {
	case n < 1<<6:
		return string([]byte{byte(n)}) + v
	case n < 1<<14:
		return string([]byte{0x40 | byte(n>>8), byte(n)}) + v
	}
	return string([]byte{0x80 | byte(n>>24), byte(n >> 16), byte(n >> 8), byte(n)}) + v
}

// with tells the box with the info of a label and a context, laid together by hand, and
// without further bytes.
func (x box) with(label string, context []byte) box {
	x.info, x.more = []byte(vec("MLS 1.0 "+label)+vec(string(context))), nil
	return x
}

// isLabelled asks that a text is sealed, and opened, with this label as without it, but
// by its info.
func (x box) isLabelled(t *testing.T, label string, context []byte) {
	t.Helper()
	enc, sealed := x.with(label, context).theirs(t)
	a, b, e := hpke.SealLabel(x.public, x.seed, label, context, x.text)
	if e != api.OK || !bytes.Equal(a, enc) || !bytes.Equal(b, sealed) {
		t.Errorf("SealLabel of %d bytes of a label and %d of a context: %x, %x, %v, not %x, %x", len(label), len(context), a, b, e, enc, sealed)
	}
	text, e := hpke.OpenLabel(x.private, enc, label, context, sealed)
	if e != api.OK || !bytes.Equal(text, x.text) {
		t.Errorf("OpenLabel of %d bytes of a label and %d of a context: %x, %v, not %x", len(label), len(context), text, e, x.text)
	}
}

// isntLabelled asks that a box with this label is told as just this error.
func (x box) isntLabelled(t *testing.T, what string, enc []byte, label string, context, sealed []byte, want api.Err) {
	t.Helper()
	if b, e := hpke.OpenLabel(x.private, enc, label, context, sealed); e != want || len(b) != 0 {
		t.Errorf("OpenLabel of %s: %x, %v, not %v", what, b, e, want)
	}
}

func TestP133Names(t *testing.T) {
	for i, name := range names {
		for _, context := range [][]byte{nil, {}, {0}, []byte("context"), random(i, 100)} {
			boxOf(t, i, 0, 2*i, 0).isLabelled(t, name, context)
		}
	}
}

func TestP133Lengths(t *testing.T) {
	for i, n := range lengths {
		for _, far := range lengths {
			boxOf(t, i, 0, 5, 0).isLabelled(t, string(random(n, n)), random(far, far))
		}
	}
	long := random(1, api.MaxBytes+1)
	boxOf(t, 1, 0, 5, 0).isLabelled(t, string(long), long)
}

func TestP133EachLengthOfAText(t *testing.T) {
	for n := range 100 {
		boxOf(t, n, 0, n, 0).isLabelled(t, "a", []byte("b"))
	}
}

// Where the label ends plays a part, and that there is one.
func TestP133Apart(t *testing.T) {
	x := boxOf(t, 2, 0, 20, 0)
	enc, sealed := x.with("name", []byte("text")).theirs(t)
	for _, y := range []struct{ name, context string }{
		{"namet", "ext"}, {"nam", "etext"}, {"", "nametext"}, {"nametext", ""}, {"text", "name"}, {"name", ""}, {"", "text"},
		{"name", "texu"}, {"name", "tex"}, {"name", "text\x00"}, {"name\x00", "text"}, {"Name", "text"}, {"naMe", "text"},
		{"name\x04text", ""}, {"MLS 1.0 name", "text"}, {" name", "text"}, {"name ", "text"}, {"name", "name"}, {"name", "\x04text"},
	} {
		x.isntLabelled(t, "another label or context", enc, y.name, []byte(y.context), sealed, api.Seal)
		if _, b, e := hpke.SealLabel(x.public, x.seed, y.name, []byte(y.context), x.text); e != api.OK || bytes.Equal(b, sealed) {
			t.Errorf("SealLabel of %q and %q: %v, just as of another one", y.name, y.context, e)
		}
	}
	x.isntOpened(t, "a box with a label, without it", enc, sealed, api.Seal)
	y := x.with("name", []byte("text"))
	y.isOpened(t, enc, sealed)
	y.more = []byte("more")
	y.isntOpened(t, "a box with a label, with further bytes", enc, sealed, api.Seal)
	_, tagged := y.theirs(t)
	x.isntLabelled(t, "a box with further bytes", enc, "name", []byte("text"), tagged, api.Seal)
	_, bare := x.theirs(t)
	x.isntLabelled(t, "a box without a label", enc, "", nil, bare, api.Seal)
}

func TestP133EachBit(t *testing.T) {
	x := boxOf(t, 3, 0, 9, 0)
	name, context := []byte("name"), []byte("text")
	enc, sealed := x.with(string(name), context).theirs(t)
	for what, b := range map[string][]byte{"enc": enc, "label": name, "context": context, "box": sealed} {
		for bit := range 8 * len(b) {
			b[bit/8] ^= 1 << (bit % 8)
			x.isntLabelled(t, "a box, its "+what+" with a bit turned", enc, string(name), context, sealed, api.Seal)
			b[bit/8] ^= 1 << (bit % 8)
		}
	}
	x.isLabelled(t, string(name), context)
}

func TestP133SealLabelErrors(t *testing.T) {
	seed, long := random(4, size), strings.Repeat("x", 1<<14)
	fails := func(public []byte, want api.Err) {
		t.Helper()
		for _, name := range []string{"", "name", long} {
			if a, b, e := hpke.SealLabel(public, seed, name, []byte(name), []byte("text")); e != want || len(a) != 0 || len(b) != 0 {
				t.Errorf("SealLabel to %x: %x, %x, %v, not %v", public, a, b, e, want)
			}
		}
		if a, b, e := hpke.SealLabel(public, nil, "", nil, nil); e != want || len(a) != 0 || len(b) != 0 {
			t.Errorf("SealLabel of nothing to %x: %x, %x, %v, not %v", public, a, b, e, want)
		}
	}
	for _, b := range wrong() {
		fails(b, api.Form)
	}
	for _, b := range lost(t) {
		fails(b, api.Point)
	}
}

func TestP133OpenLabelErrors(t *testing.T) {
	x := boxOf(t, 5, 0, 10, 0)
	enc, sealed := x.with("name", nil).theirs(t)
	for _, b := range wrong() {
		y := x
		y.private = b
		x.isntLabelled(t, "a box with an enc that can't be", b, "name", nil, sealed, api.Form)
		x.isntLabelled(t, "no box, with an enc that can't be", b, "name", nil, nil, api.Form)
		y.isntLabelled(t, "a box by a key that can't be", enc, "name", nil, sealed, api.Arg)
		y.isntLabelled(t, "nothing by a key that can't be", b, "", nil, nil, api.Arg)
		y.isntLabelled(t, "a box by a key that can't be, with a lost enc", make([]byte, size), "name", nil, sealed, api.Arg)
	}
	for _, b := range lost(t) {
		x.isntLabelled(t, "a box with a lost enc", b, "name", nil, sealed, api.Point)
		x.isntLabelled(t, "no box, with a lost enc", b, "name", nil, nil, api.Point)
	}
	for n := range sealed {
		x.isntLabelled(t, "bytes cut at their end", enc, "name", nil, sealed[:n], api.Seal)
	}
	private, _ := hpke.Pair([]byte("another"))
	box{private: private}.isntLabelled(t, "another one's box", enc, "name", nil, sealed, api.Seal)
}

// What is handed in stays as it is, and isn't kept; what is told is the caller's.
func TestP133NothingShared(t *testing.T) {
	for _, n := range lengths {
		x := boxOf(t, 6, 0, 20, 0)
		room, seed, text := random(n, n+100), random(7, 100), append(bytes.Clone(x.text), random(8, 80)...)
		context := room[:n]
		enc, sealed := x.with("name", context).theirs(t)
		a, b, _ := hpke.SealLabel(x.public, x.seed, "name", context, text[:20])
		c, d, _ := hpke.SealLabel(x.public, x.seed, "name", context, text[:20])
		one, _ := hpke.OpenLabel(x.private, enc, "name", context, sealed)
		another, _ := hpke.OpenLabel(x.private, enc, "name", context, sealed)
		hpke.SealLabel(x.public, seed[:50], "name", context, text[:20])
		for _, b := range [][]byte{a, b, one} {
			clear(b[:cap(b)])
		}
		equal(t, "the context, and what is behind it", room, random(n, n+100))
		equal(t, "the seed, and what is behind it", seed, random(7, 100))
		equal(t, "the text, and what is behind it", text[20:], random(8, 80))
		clear(text)
		clear(room)
		equal(t, "the second enc", c, enc)
		equal(t, "the second box", d, sealed)
		equal(t, "the second text", another, x.text)
	}
}
