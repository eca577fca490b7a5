package aes_test

import (
	"testing"

	"ratline/aes"
)

// products tells Times of all bytes.
func products() *[256][256]byte {
	var p [256][256]byte
	for a := range p {
		for b := range p[a] {
			p[a][b] = aes.Times(byte(a), byte(b))
		}
	}
	return &p
}

func TestP113OfOneAndTwo(t *testing.T) {
	p := products()
	for a := range p {
		if p[a][1] != byte(a) || p[1][a] != byte(a) {
			t.Errorf("%x times 1: %x; 1 times it: %x", a, p[a][1], p[1][a])
		}
		if p[a][0] != 0 || p[0][a] != 0 {
			t.Errorf("%x times 0: %x; 0 times it: %x", a, p[a][0], p[0][a])
		}
		for b := range p[a] {
			if p[a][b] != p[b][a] {
				t.Fatalf("%x times %x: %x; the other way round %x", a, b, p[a][b], p[b][a])
			}
		}
	}
}

func TestP113OfThree(t *testing.T) {
	p := products()
	for a := range p {
		for b := range p {
			ab := p[a][b]
			for c := range p {
				if p[ab][c] != p[a][p[b][c]] {
					t.Fatalf("(%x times %x) times %x isn't %x times (%x times %x)", a, b, c, a, b, c)
				}
				if p[a][b^c] != ab^p[a][c] {
					t.Fatalf("%x times the sum of %x and %x isn't the products' sum", a, b, c)
				}
			}
		}
	}
}

// Each byte but 0 tells each byte once, and so 1: no product of two others is 0.
func TestP113Inverses(t *testing.T) {
	p := products()
	for a := 1; a < len(p); a++ {
		var told [256]bool
		for b := range p {
			told[p[a][b]] = true
		}
		for b, is := range told {
			if !is {
				t.Fatalf("%x times a byte is never %x", a, b)
			}
		}
	}
}

func TestP113BoxTellsEachOnce(t *testing.T) {
	var told [256]int
	for b := range told {
		told[aes.Box(byte(b))]++
	}
	for b, often := range told {
		if often != 1 {
			t.Errorf("the box tells %x %d times", b, often)
		}
	}
}

// By one key no two blocks are the same, sealed.
func TestP113BlocksStayApart(t *testing.T) {
	for i := range 10 {
		key := random(i, size)
		told := map[[size]byte]int{}
		for bit := -1; bit < 8*size; bit++ {
			block := random(i+10, size)
			if bit >= 0 {
				block[bit/8] ^= 1 << (bit % 8)
			}
			b, ok := aes.Block(key, block)
			if !ok {
				t.Fatal("Block is false")
			}
			told[[size]byte(b)]++
		}
		if len(told) != 8*size+1 {
			t.Errorf("%d blocks, sealed, of %d", len(told), 8*size+1)
		}
	}
}
