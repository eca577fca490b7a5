package aes

import (
	"math/rand"
	"testing"
)

// lane tells one of the eight bytes.
func lane(x uint64, at int) byte {
	return byte(x >> (byteBits * at))
}

// ask asks that each of the eight bytes is what it would be without the others.
func ask(t *testing.T, a, b uint64) {
	t.Helper()
	for at := range 8 {
		x, y := lane(a, at), lane(b, at)
		if got, want := lane(times(a, b), at), Times(x, y); got != want {
			t.Fatalf("byte %d of %x times %x: %x, not %x", at, a, b, got, want)
		}
		if got, want := lane(doubled(a), at), Times(x, 2); got != want {
			t.Fatalf("byte %d of %x, doubled: %x, not %x", at, a, got, want)
		}
		if got, want := lane(boxed(a), at), Box(x); got != want {
			t.Fatalf("byte %d of %x, boxed: %x, not %x", at, a, got, want)
		}
		if x != 0 && Times(x, lane(inverse(a), at)) != 1 || x == 0 && lane(inverse(a), at) != 0 {
			t.Fatalf("byte %d of %x's inverse: %x", at, a, lane(inverse(a), at))
		}
	}
}

func TestP111LanesStayApart(t *testing.T) {
	r := rand.New(rand.NewSource(11))
	for _, x := range []uint64{0, ones, highs, ^uint64(0), 0xff << 56, 0xff, 0xff00ff00ff00ff00, 0x00ff00ff00ff00ff} {
		for _, y := range []uint64{0, ones, highs, ^uint64(0), 0xff << 56, 0xff, 0x00ff00ff00ff00ff, r.Uint64()} {
			ask(t, x, y)
		}
	}
	for range 3000 {
		ask(t, r.Uint64(), r.Uint64())
	}
}
