package sign_test

import (
	"bytes"
	"slices"
	"strings"
	"testing"

	"ratline/api"
	"ratline/sign"
)

// names are labels, some of which aren't texts.
var names = []string{
	"", "a", "LeafNodeTBS", "KeyPackageTBS", "FramedContentTBS", " ", "MLS 1.0 ", "MLS 1.0", "a ", " a",
	"\x00", "a\x00b", "\xff\xfe", "schlüssel", "\x09MLS 1.0 a",
}

// lengths are those about the ends of vectors, with the 8 bytes ahead of a label
// and without them.
var lengths = []int{0, 1, 54, 55, 56, 57, 62, 63, 64, 65, 200, 1<<14 - 9, 1<<14 - 8, 1<<14 - 7, 1<<14 - 1, 1 << 14}

// vec tells a vector's bytes, laid together by hand.
func vec(v string) string {
	n := len(v)
	switch {
	case n < 1<<6:
		return string([]byte{byte(n)}) + v
	case n < 1<<14:
		return string([]byte{0x40 | byte(n>>8), byte(n)}) + v
	}
	return string([]byte{0x80 | byte(n>>24), byte(n >> 16), byte(n >> 8), byte(n)}) + v
}

// labelled tells a text with a label, laid together by hand.
func labelled(label string, text []byte) []byte {
	return []byte(vec("MLS 1.0 "+label) + vec(string(text)))
}

// label asks Label for what it tells, without an error.
func label(t *testing.T, seed []byte, label string, text []byte) []byte {
	t.Helper()
	b, e := sign.Label(seed, label, text)
	if e != api.OK || len(b) != whole {
		t.Fatalf("Label by %x: %x, %v", seed, b, e)
	}
	return b
}

// checks asks that Check tells just this.
func checks(t *testing.T, what string, public []byte, label string, text, signature []byte, want bool) {
	t.Helper()
	if got := sign.Check(public, label, text, signature); got != want {
		t.Errorf("%s: Check is %v; public key %x, label %q, text %x, signature %x", what, got, public, label, text, signature)
	}
}

func TestP102Names(t *testing.T) {
	for i, name := range names {
		for _, text := range [][]byte{nil, {}, {0}, []byte("text"), random(i, 100)} {
			key, signature := theirs(random(i, size), labelled(name, text))
			equal(t, "Label", label(t, random(i, size), name, text), signature)
			checks(t, "Check", key, name, text, signature, true)
		}
	}
	_, signature := theirs(random(1, size), []byte("\x09MLS 1.0 a\x02hi"))
	equal(t, "a label as it is", label(t, random(1, size), "a", []byte("hi")), signature)
	_, signature = theirs(random(1, size), []byte("\x08MLS 1.0 \x00"))
	equal(t, "nothing", label(t, random(1, size), "", nil), signature)
}

func TestP102Lengths(t *testing.T) {
	for _, n := range lengths {
		for _, far := range lengths {
			name, text := string(random(n, n)), random(far, far)
			key, signature := theirs(random(2, size), labelled(name, text))
			equal(t, "Label", label(t, random(2, size), name, text), signature)
			checks(t, "Check", key, name, text, signature, true)
		}
	}
	long := random(1, 1<<20+1)
	key, signature := theirs(random(2, size), labelled(string(long), long))
	equal(t, "Label of much", label(t, random(2, size), string(long), long), signature)
	checks(t, "Check of much", key, string(long), long, signature, true)
}

// Where the label ends plays a part, and that there is one.
func TestP102Apart(t *testing.T) {
	key, signature := theirs(random(3, size), labelled("name", []byte("text")))
	checks(t, "as it was signed", key, "name", []byte("text"), signature, true)
	for _, x := range []struct{ name, text string }{
		{"namet", "ext"}, {"nam", "etext"}, {"", "nametext"}, {"nametext", ""}, {"text", "name"}, {"name", ""}, {"", "text"},
		{"name", "texu"}, {"name", "tex"}, {"name", "text\x00"}, {"name\x00", "text"}, {"Name", "text"}, {"naMe", "text"},
		{"name\x04text", ""}, {"MLS 1.0 name", "text"}, {" name", "text"}, {"name ", "text"}, {"name", "name"}, {"name", "\x04text"},
	} {
		checks(t, "another label or text", key, x.name, []byte(x.text), signature, false)
		if b := label(t, random(3, size), x.name, []byte(x.text)); bytes.Equal(b, signature) {
			t.Errorf("Label of %q and %q: just as of another one", x.name, x.text)
		}
	}
	holds(t, "without its label", key, []byte("text"), signature, false)
	holds(t, "of all that was signed", key, labelled("name", []byte("text")), signature, true)
	checks(t, "signed without a label", key, "", []byte("text"), signed(t, random(3, size), []byte("text")), false)
}

func TestP102EachBit(t *testing.T) {
	key, signature := theirs(random(4, size), labelled("name", []byte("text")))
	name, text := []byte("name"), []byte("text")
	for what, b := range map[string][]byte{"key": key, "label": name, "text": text, "signature": signature} {
		for bit := range 8 * len(b) {
			b[bit/8] ^= 1 << (bit % 8)
			checks(t, what+" with a bit turned", key, string(name), text, signature, false)
			b[bit/8] ^= 1 << (bit % 8)
		}
	}
	checks(t, "all turned back", key, string(name), text, signature, true)
}

func TestP102WrongSeeds(t *testing.T) {
	for _, seed := range wrongSeeds() {
		for _, name := range []string{"", "name", strings.Repeat("x", 1<<14)} {
			for _, text := range [][]byte{nil, []byte("text")} {
				if b, e := sign.Label(seed, name, text); e != api.Arg || len(b) != 0 {
					t.Errorf("Label by %d bytes: %x, %v", len(seed), b, e)
				}
			}
		}
	}
}

func TestP102OtherLengths(t *testing.T) {
	key, signature := theirs(random(5, size), labelled("name", []byte("text")))
	keys, signatures := slices.Concat(key, key, key, key), slices.Concat(signature, signature)
	for n := range keys {
		checks(t, "a key's beginning, or more", keys[:n], "name", []byte("text"), signature, n == size)
		checks(t, "a signature's beginning, or more", key, "name", []byte("text"), signatures[:n], n == whole)
	}
	checks(t, "no key", nil, "name", []byte("text"), signature, false)
	checks(t, "no signature", key, "name", []byte("text"), nil, false)
	checks(t, "nothing at all", nil, "", nil, nil, false)
}

// A scalar and a point have one form alone with a label, too.
func TestP102NotExact(t *testing.T) {
	key, signature := theirs(random(6, size), labelled("name", []byte("text")))
	n := number(signature[size:])
	for n.Add(n, order()).BitLen() <= 8*size {
		checks(t, "L more", key, "name", []byte("text"), append(bytes.Clone(signature[:size]), lowFirst(n)...), false)
	}
	ofNothing, ofLast := others()
	for _, b := range append(ofNothing, ofLast...) {
		checks(t, "a key in another form", b, "name", []byte("text"), append(bytes.Clone(b), make([]byte, size)...), false)
	}
}

// What is handed in stays as it is, and what is told is the caller's.
func TestP102NothingShared(t *testing.T) {
	for _, n := range lengths {
		seed, text := random(7, 100)[:size], random(n, n+100)[:n]
		key, signature := theirs(random(7, size), labelled("name", random(n, n)))
		first, second := label(t, seed, "name", text), label(t, seed, "name", text)
		clear(first[:cap(first)])
		equal(t, "told second", second, signature)
		checks(t, "Check", key, "name", text, second, true)
		equal(t, "the seed", seed[:100], random(7, 100))
		equal(t, "the text", text[:n+100], random(n, n+100))
		equal(t, "the signature", second, signature)
		clear(seed)
		clear(text)
		equal(t, "behind a change of the seed", second, signature)
	}
}
