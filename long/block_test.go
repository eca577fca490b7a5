package long

import (
	"bytes"
	"testing"
)

func primes(n int) []uint64 {
	var l []uint64
next:
	for p := uint64(2); len(l) < n; p++ {
		for _, q := range l {
			if p%q == 0 {
				continue next
			}
		}
		l = append(l, p)
	}
	return l
}

func TestP31Tables(t *testing.T) {
	for i, p := range primes(len(constants)) {
		if root := Root(p, 3); constants[i] != root {
			t.Errorf("constant %d is %x, not %x", i, constants[i], root)
		}
		if i < len(beginnings) && beginnings[i] != Root(p, 2) {
			t.Errorf("beginning %d is %x, not %x", i, beginnings[i], Root(p, 2))
		}
	}
}

// How many bits there are is asked of the last block alone, so that no bytes
// need to be gone through for a number of more than 4 or 8 bytes.
func TestP31ManyBits(t *testing.T) {
	for _, x := range []struct {
		length uint64
		count  []byte
	}{
		{0, make([]byte, 16)},
		{128, []byte{0, 0, 0, 0, 0, 0, 0, 0, 0, 0, 0, 0, 0, 0, 4, 0}},
		{1 << 29, []byte{0, 0, 0, 0, 0, 0, 0, 0, 0, 0, 0, 1, 0, 0, 0, 0}},
		{1<<31 - 1, []byte{0, 0, 0, 0, 0, 0, 0, 0, 0, 0, 0, 3, 0xFF, 0xFF, 0xFF, 0xF8}},
		{1 << 61, []byte{0, 0, 0, 0, 0, 0, 0, 1, 0, 0, 0, 0, 0, 0, 0, 0}},
		{1<<64 - 1, []byte{0, 0, 0, 0, 0, 0, 0, 7, 0xFF, 0xFF, 0xFF, 0xFF, 0xFF, 0xFF, 0xFF, 0xF8}},
	} {
		for _, n := range []int{0, 1, 111, 112, 113, 127} {
			open := bytes.Repeat([]byte{7}, n)
			last := append(bytes.Clone(open), 128)
			for len(last)%128 != 112 {
				last = append(last, 0)
			}
			state, _ := through(beginnings, append(last, x.count...))
			d := closed(beginnings, open, x.length)
			for i, word := range state {
				var b [8]byte
				put(b[:], word)
				if !bytes.Equal(d[8*i:8*i+8], b[:]) {
					t.Errorf("%d bytes, %d of them open: word %d is %x, not %x", x.length, n, i, d[8*i:8*i+8], b)
				}
			}
		}
	}
}
