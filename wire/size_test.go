package wire

import (
	"bytes"
	"testing"
)

// onlyAhead asks that put puts nothing behind what is ahead, and tells that in
// new memory.
func onlyAhead(t *testing.T, what string, put func(b []byte) []byte) {
	t.Helper()
	for _, ahead := range [][]byte{nil, {5}, {1, 2, 3}} {
		b := bytes.Clone(ahead)
		got := put(b)
		if !bytes.Equal(got, ahead) {
			t.Errorf("%s: %d bytes behind %d", what, len(got), len(ahead))
			continue
		}
		clear(got)
		if !bytes.Equal(b, ahead) {
			t.Errorf("%s shares what is ahead", what)
		}
	}
}

// One test asks all that is too long, so that a gigabyte is laid out but once,
// and never touched. For the same reason the longest list is asked by its
// length alone.
func TestP11TooLong(t *testing.T) {
	huge := make([]byte, 1<<30)
	half := huge[:1<<29]
	onlyAhead(t, "PutVec of 2^30 bytes", func(b []byte) []byte { return PutVec(b, huge) })
	for _, x := range []struct {
		what string
		l    [][]byte
	}{
		{"PutList of a vector that can't be", [][]byte{huge}},
		{"PutList of it behind another one", [][]byte{{1}, huge}},
		{"PutList of 2^30 bytes", [][]byte{huge[:1<<30-4]}},
		{"PutList of two halves", [][]byte{half, half}},
		{"PutList of four halves", [][]byte{half, half, half, half}},
		{"PutList of 2^30 bytes in two", [][]byte{nil, huge[:1<<30-5]}},
	} {
		onlyAhead(t, x.what, func(b []byte) []byte { return PutList(b, x.l) })
	}
	if n, ok := listLen([][]byte{huge[:1<<30-5]}); n != 1<<30-1 || !ok {
		t.Errorf("a list of 2^30 - 1 bytes: %d, %v", n, ok)
	}
}
