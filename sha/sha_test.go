package sha_test

import (
	"bytes"
	"crypto/sha256"
	"encoding/hex"
	"math/rand"
	"strings"
	"testing"

	"ratline/sha"
)

// known are texts and their digests, as published.
var known = []struct{ text, want string }{
	{"", "e3b0c44298fc1c149afbf4c8996fb92427ae41e4649b934ca495991b7852b855"},
	{"abc", "ba7816bf8f01cfea414140de5dae2223b00361a396177a9cb410ff61f20015ad"},
	{
		"abcdbcdecdefdefgefghfghighijhijkijkljklmklmnlmnomnopnopq",
		"248d6a61d20638b8e5c026930c3e6039a33ce45964ff2167f6ecedd419db06c1",
	},
	{
		"abcdefghbcdefghicdefghijdefghijkefghijklfghijklmghijklmnhijklmnoijklmnopjklmnopqklmnopqrlmnopqrsmnopqrstnopqrstu",
		"cf5b16a778af8380036ce59e7b0492370b249b11e8f07a51afac45037afee9d1",
	},
	{strings.Repeat("a", 1e6), "cdc76e5c9914fb9281a1c7e284d73e67f1809a48a497200e046d39ccc7112cd0"},
}

// lengths are those at which what stands behind the bytes takes one block
// more, or none of a block is left.
var lengths = []int{0, 1, 54, 55, 56, 57, 63, 64, 65, 118, 119, 120, 127, 128, 129, 183, 184, 192, 1000}

// some tells n bytes, unlike ones at each place.
func some(n int) []byte {
	b := make([]byte, n)
	rand.New(rand.NewSource(int64(n))).Read(b)
	return b
}

// want tells the digest by another program.
func want(b []byte) []byte {
	d := sha256.Sum256(b)
	return d[:]
}

func sum(b []byte) []byte {
	d := sha.Sum(b)
	return d[:]
}

func same(t *testing.T, what string, got, want []byte) {
	t.Helper()
	if !bytes.Equal(got, want) {
		t.Errorf("%s: %x, not %x", what, got, want)
	}
}

// holds asks that h tells the digest of b, and b's length.
func holds(t *testing.T, what string, h *sha.Hash, b []byte) {
	t.Helper()
	same(t, what, h.Sum(), want(b))
	if h.Len() != len(b) {
		t.Errorf("%s: Len %d, not %d", what, h.Len(), len(b))
	}
}

func TestP21Known(t *testing.T) {
	for _, x := range known {
		d, err := hex.DecodeString(x.want)
		if err != nil {
			t.Fatal(err)
		}
		same(t, "Sum", sum([]byte(x.text)), d)
		same(t, "Of", sha.Of([]byte(x.text)), d)
	}
}

func TestP21EachLength(t *testing.T) {
	for n := range 400 {
		b := some(n)
		same(t, "Sum", sum(b), want(b))
		same(t, "Of", sha.Of(b), want(b))
	}
}

// Each kind of bytes fills up blocks, so that no word goes round unseen.
func TestP21Extremes(t *testing.T) {
	for _, n := range lengths {
		for _, x := range []byte{0, 1, 127, 128, 255} {
			b := bytes.Repeat([]byte{x}, n)
			same(t, "Sum", sum(b), want(b))
		}
	}
}

func TestP21Parts(t *testing.T) {
	none := want(nil)
	same(t, "Of no parts", sha.Of(), none)
	same(t, "Of a nil list", sha.Of([][]byte(nil)...), none)
	same(t, "Of nil parts", sha.Of(nil, nil, []byte{}), none)
	same(t, "Sum of nil", sum(nil), none)
	same(t, "Of three", sha.Of([]byte("a"), nil, []byte("bc"), []byte{}), want([]byte("abc")))
	same(t, "Of two the other way round", sha.Of([]byte("bc"), []byte("a")), want([]byte("bca")))
	long := some(100)
	same(t, "Of one twice", sha.Of(long, long), want(append(bytes.Clone(long), long...)))
}

// What is told is the caller's, and what is handed in stays as it is.
func TestP21NothingShared(t *testing.T) {
	for _, n := range lengths {
		b, kept := some(n), some(n)
		d := sha.Of(b, b[:n/2])
		again := bytes.Clone(d)
		clear(d)
		same(t, "Of once more", sha.Of(b, b[:n/2]), again)
		sha.Sum(b)
		same(t, "what was handed in", b, kept)
	}
	room := append(make([]byte, 0, 256), "abc"...)
	sha.Sum(room)
	sha.Of(room, room)
	same(t, "what is behind the bytes", room[:cap(room)], append([]byte("abc"), make([]byte, 253)...))
	parts := [][]byte{[]byte("a"), nil, []byte("b")}
	sha.Of(parts...)
	if len(parts) != 3 || string(parts[0]) != "a" || parts[1] != nil || string(parts[2]) != "b" {
		t.Errorf("the parts have changed: %q", parts)
	}
}

func TestP22MoreMayBeWritten(t *testing.T) {
	h := sha.New()
	holds(t, "New", h, nil)
	var all []byte
	for _, n := range append(lengths, lengths...) {
		b := some(n)
		h.Write(b)
		all = append(all, b...)
		holds(t, "a Hash", h, all)
		holds(t, "a Hash asked again", h, all)
	}
}

func TestP22EachLength(t *testing.T) {
	h := sha.New()
	b := some(400)
	for i := range b {
		holds(t, "a Hash", h, b[:i])
		h.Write(b[i : i+1])
	}
	holds(t, "a Hash", h, b)
}

func TestP22Nil(t *testing.T) {
	var h *sha.Hash
	holds(t, "nil", h, nil)
	for _, b := range [][]byte{nil, {}, []byte("abc"), some(64), some(200)} {
		h.Write(b)
		holds(t, "nil, written to", h, nil)
	}
	holds(t, "New behind what nil was told", sha.New(), nil)
}

func TestP22Zero(t *testing.T) {
	for _, n := range lengths {
		var h sha.Hash
		holds(t, "the zero Hash", &h, nil)
		h.Write(nil)
		holds(t, "the zero Hash without bytes", &h, nil)
		h.Write(some(n))
		holds(t, "the zero Hash, written to", &h, some(n))
	}
}

// Each Hash has its own bytes, and keeps none of those that were handed in.
func TestP22NothingShared(t *testing.T) {
	one, two := sha.New(), sha.New()
	for _, n := range lengths {
		b := some(n)
		one, two = sha.New(), sha.New()
		one.Write(b)
		same(t, "what was handed in", b, some(n))
		clear(b)
		holds(t, "behind a change of what was written", one, some(n))
		holds(t, "another one", two, nil)
		d := one.Sum()
		clear(d)
		holds(t, "behind a change of what was told", one, some(n))
		third := *one
		third.Write([]byte("more"))
		holds(t, "behind a write to its copy", one, some(n))
		holds(t, "its copy", &third, append(some(n), "more"...))
	}
}

func TestP23TwoParts(t *testing.T) {
	b := some(200)
	d := want(b)
	for i := range len(b) + 1 {
		same(t, "Of two parts", sha.Of(b[:i], b[i:]), d)
		h := sha.New()
		h.Write(b[:i])
		h.Write(nil)
		h.Write(b[i:])
		holds(t, "a Hash in two parts", h, b)
	}
}

func TestP23EvenParts(t *testing.T) {
	b := some(517)
	d := want(b)
	for size := 1; size <= 130; size++ {
		var parts [][]byte
		h := sha.New()
		for at := 0; at < len(b); at += size {
			part := b[at:min(at+size, len(b))]
			parts = append(parts, part)
			h.Write(part)
		}
		same(t, "Of even parts", sha.Of(parts...), d)
		holds(t, "a Hash in even parts", h, b)
	}
}

func TestP23AnyParts(t *testing.T) {
	r := rand.New(rand.NewSource(23))
	for range 500 {
		b := some(r.Intn(700))
		var parts [][]byte
		h := sha.New()
		for at := 0; at < len(b); {
			n := min(r.Intn(150), len(b)-at)
			parts = append(parts, b[at:at+n])
			h.Write(b[at : at+n])
			at += n
			holds(t, "a Hash in part", h, b[:at])
		}
		same(t, "Of parts", sha.Of(parts...), sum(b))
		same(t, "Sum", sum(b), want(b))
	}
}
