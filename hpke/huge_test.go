package hpke_test

import (
	"testing"

	"ratline/api"
	"ratline/hpke"
)

// No vector is so long as this context, so that nothing is put of it. It isn't touched:
// no test of a file ahead of this one has used its memory.
func TestP133TooLongForAVector(t *testing.T) {
	huge := make([]byte, 1<<30)
	x := boxOf(t, 1, 0, 20, 0)
	x.info = []byte("\x0cMLS 1.0 name")
	enc, sealed := x.theirs(t)
	a, b, e := hpke.SealLabel(x.public, x.seed, "name", huge, x.text)
	if e != api.OK {
		t.Fatalf("SealLabel: %v", e)
	}
	equal(t, "enc", a, enc)
	equal(t, "the box", b, sealed)
	text, e := hpke.OpenLabel(x.private, a, "name", huge, b)
	if e != api.OK {
		t.Fatalf("OpenLabel: %v", e)
	}
	equal(t, "the text", text, x.text)
}
