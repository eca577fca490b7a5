package mac_test

import (
	"bytes"
	"crypto/hmac"
	"crypto/sha256"
	"encoding/hex"
	"math/rand"
	"strings"
	"testing"
	"time"

	"ratline/mac"
)

const blockSize = 64

// published are keys, texts and their tags.
var published = []struct{ key, text, want string }{
	{
		strings.Repeat("\x0b", 20), "Hi There",
		"b0344c61d8db38535ca8afceaf0bf12b881dc200c9833da726e9376c2e32cff7",
	},
	{
		"Jefe", "what do ya want for nothing?",
		"5bdcc146bf60754e6a042426089575c75a003f089d2739839dec58b964ec3843",
	},
	{
		strings.Repeat("\xaa", 20), strings.Repeat("\xdd", 50),
		"773ea91e36800e46854db8ebd09181a72959098b3ef8c122d9635514ced565fe",
	},
	{
		"\x01\x02\x03\x04\x05\x06\x07\x08\x09\x0a\x0b\x0c\x0d\x0e\x0f\x10\x11\x12\x13\x14\x15\x16\x17\x18\x19",
		strings.Repeat("\xcd", 50),
		"82558a389a443c0ea4cc819899f2083a85f0faa3e578f8077a2e3ff46729665b",
	},
	{
		strings.Repeat("\xaa", 131), "Test Using Larger Than Block-Size Key - Hash Key First",
		"60e431591ee0b67f0d8a26aacbf5b77f8e0bc6213728c5140546040f0ee37f54",
	},
	{
		strings.Repeat("\xaa", 131),
		"This is a test using a larger than block-size key and a larger than block-size data. " +
			"The key needs to be hashed before being used by the HMAC algorithm.",
		"9b09ffa71b942fcb27635fbcd5b0e944bfdc63644f0713938a7f51535c3a35e2",
	},
	{"", "", "b613679a0814d9ec772f95d778c35fc5ff1697c493715653c6c712144292c5ad"},
}

// lengths are those about the ends of blocks, of keys and of texts.
var lengths = []int{0, 1, 31, 32, 33, 55, 56, 63, 64, 65, 66, 127, 128, 129, 300}

// random tells n bytes, the same ones each time.
func random(n int) []byte {
	b := make([]byte, n)
	rand.New(rand.NewSource(int64(n))).Read(b)
	return b
}

// filled tells n bytes, none of which is 0.
func filled(n int) []byte {
	return bytes.Repeat([]byte{7}, n)
}

// with tells b with noughts behind it, n bytes in all.
func with(b []byte, n int) []byte {
	return append(bytes.Clone(b), make([]byte, n-len(b))...)
}

// asked tells the tag by another program.
func asked(key, text []byte) []byte {
	h := hmac.New(sha256.New, key)
	h.Write(text)
	return h.Sum(nil)
}

func equal(t *testing.T, what string, got, want []byte) {
	t.Helper()
	if !bytes.Equal(got, want) {
		t.Errorf("%s: %x, not %x", what, got, want)
	}
}

// tagged asks that the parts under the key have this tag, by Tag and by Is.
func tagged(t *testing.T, what string, tag, key []byte, parts ...[]byte) {
	t.Helper()
	equal(t, what, mac.Tag(key, parts...), tag)
	if !mac.Is(tag, key, parts...) {
		t.Errorf("%s: Is: false of %x", what, tag)
	}
}

// refused asks that tag isn't that of the parts under the key.
func refused(t *testing.T, what string, tag, key []byte, parts ...[]byte) {
	t.Helper()
	if mac.Is(tag, key, parts...) {
		t.Errorf("%s: Is: true of %x", what, tag)
	}
}

// compared asks Same both ways round.
func compared(t *testing.T, what string, a, b []byte, want bool) {
	t.Helper()
	if mac.Same(a, b) != want || mac.Same(b, a) != want {
		t.Errorf("%s: Same isn't %t of %x and %x", what, want, a, b)
	}
}

func TestP41Published(t *testing.T) {
	for _, x := range published {
		tag, err := hex.DecodeString(x.want)
		if err != nil {
			t.Fatal(err)
		}
		tagged(t, x.text, tag, []byte(x.key), []byte(x.text))
	}
}

func TestP41EachKeyLength(t *testing.T) {
	for n := range 300 {
		for _, size := range lengths {
			tagged(t, "a key", asked(random(n), random(size)), random(n), random(size))
		}
	}
}

func TestP41EachTextLength(t *testing.T) {
	for size := range 300 {
		for _, n := range lengths {
			tagged(t, "a text", asked(random(n), random(size)), random(n), random(size))
		}
	}
	tagged(t, "a long text", asked(random(32), random(1<<20)), random(32), random(1<<20))
	tagged(t, "a long key", asked(random(1<<20), random(32)), random(1<<20), random(32))
}

func TestP41EqualBytes(t *testing.T) {
	for x := range 256 {
		for _, n := range []int{1, 63, 64, 65} {
			b := bytes.Repeat([]byte{byte(x)}, n)
			tagged(t, "equal bytes", asked(b, b), b, b)
		}
	}
}

func TestP41NoBytes(t *testing.T) {
	none := asked(nil, nil)
	tagged(t, "no parts", none, nil)
	tagged(t, "no parts under a key of no bytes", none, []byte{})
	tagged(t, "a nil list", none, nil, [][]byte(nil)...)
	tagged(t, "parts without bytes", none, nil, nil, []byte{}, nil)
	tagged(t, "no parts under a key", asked([]byte("key"), nil), []byte("key"))
	tagged(t, "a text under no key", asked(nil, []byte("text")), nil, []byte("text"))
}

func TestP41Parts(t *testing.T) {
	key := []byte("key")
	tagged(t, "three parts", asked(key, []byte("abc")), key, []byte("a"), nil, []byte("b"), []byte{}, []byte("c"))
	tagged(t, "parts the other way round", asked(key, []byte("cab")), key, []byte("c"), []byte("ab"))
	b := random(100)
	tagged(t, "one part twice", asked(key, append(random(100), b...)), key, b, b)
	b = random(200)
	tag := asked(key, b)
	for end := range len(b) + 1 {
		tagged(t, "two parts", tag, key, b[:end], b[end:])
		tagged(t, "three parts", tag, key, b[:end/2], b[end/2:end], b[end:])
	}
	var single [][]byte
	for i := range b {
		single = append(single, b[i:i+1])
	}
	tagged(t, "each byte a part", tag, key, single...)
}

// The key isn't a part: where it ends plays a part.
func TestP41KeyAndText(t *testing.T) {
	refused(t, "a byte of the text at the key", asked([]byte("ke"), []byte("ytext")), []byte("key"), []byte("text"))
	refused(t, "key and text changed round", asked([]byte("text"), []byte("key")), []byte("key"), []byte("text"))
}

func TestP41OtherTags(t *testing.T) {
	key, text := random(32), random(50)
	tag := asked(key, text)
	for i := range tag {
		for bit := range 8 {
			other := bytes.Clone(tag)
			other[i] ^= 1 << bit
			refused(t, "a tag of another bit", other, key, text)
		}
		refused(t, "a tag that is cut", tag[:i], key, text)
		refused(t, "a tag cut at its beginning", tag[i+1:], key, text)
	}
	refused(t, "nil", nil, key, text)
	refused(t, "no bytes", []byte{}, key, text)
	refused(t, "noughts", make([]byte, 32), key, text)
	refused(t, "a nought behind it", with(tag, 33), key, text)
	refused(t, "the tag twice", append(bytes.Clone(tag), tag...), key, text)
	refused(t, "a block of it", with(tag, blockSize), key, text)
}

func TestP41OtherKeysAndTexts(t *testing.T) {
	for _, n := range []int{1, 32, 64, 65, 130} {
		key, text := random(n), random(n)
		tag := asked(key, text)
		for i := range n {
			other := bytes.Clone(key)
			other[i] ^= 0x80
			refused(t, "another key", tag, other, text)
			other = bytes.Clone(text)
			other[i] ^= 1
			refused(t, "another text", tag, key, other)
		}
		refused(t, "less of the text", tag, key, text[1:])
		refused(t, "no text", tag, key)
		refused(t, "more of the text", tag, key, text, []byte{0})
		refused(t, "no key", tag, nil, text)
	}
}

// What is handed in stays as it is, and what is behind its end too.
func TestP41HandedIn(t *testing.T) {
	for _, n := range lengths {
		key, text := random(n + 400)[:n], random(n + 500)[:n]
		parts := [][]byte{text, nil, text[:n/2]}
		tag := mac.Tag(key, parts...)
		mac.Is(tag, key, parts...)
		tagged(t, "handed in again", tag, key, parts...)
		equal(t, "the key", key[:n+400], random(n+400))
		equal(t, "the text", text[:n+500], random(n+500))
		for i, size := range []int{n, 0, n / 2} {
			if len(parts[i]) != size || (parts[i] == nil) != (i == 1) {
				t.Errorf("part %d of %d bytes has changed: %x", i, n, parts[i])
			}
		}
	}
}

// What is told is the caller's, and hangs on nothing that was told before.
func TestP41Told(t *testing.T) {
	for _, n := range lengths {
		key, text := random(n), random(n)
		first, second := mac.Tag(key, text), mac.Tag(key, text)
		clear(first)
		clear(key)
		clear(text)
		equal(t, "what was told second", second, asked(random(n), random(n)))
		tagged(t, "told once more", second, random(n), random(n))
	}
}

func TestP42Same(t *testing.T) {
	for n := range 300 {
		compared(t, "the same bytes elsewhere", random(n), random(n), true)
		compared(t, "noughts", make([]byte, n), make([]byte, n), true)
		b := random(n)
		compared(t, "the very bytes", b, b, true)
	}
	compared(t, "nil", nil, nil, true)
	compared(t, "nil and no bytes", nil, []byte{}, true)
}

func TestP42EachBit(t *testing.T) {
	for _, n := range lengths {
		for i := range n {
			for bit := range 8 {
				b := random(n)
				b[i] ^= 1 << bit
				compared(t, "another bit", random(n), b, false)
			}
		}
	}
}

// What differs at two places, or at all, doesn't cancel out.
func TestP42MoreDiffers(t *testing.T) {
	for _, n := range lengths[3:] {
		for i := 1; i < n; i++ {
			b := random(n)
			b[0] ^= 0x55
			b[i] ^= 0x55
			compared(t, "two bytes", random(n), b, false)
			b[i] ^= 0xFF
			compared(t, "two bytes that are turned unlike", random(n), b, false)
		}
		compared(t, "each byte by 1", bytes.Repeat([]byte{1}, n), bytes.Repeat([]byte{2}, n), false)
		compared(t, "each byte by all bits", make([]byte, n), bytes.Repeat([]byte{0xFF}, n), false)
	}
	compared(t, "bytes changed round", []byte{1, 2}, []byte{2, 1}, false)
}

// Bytes of which one list has more differ, even if they are noughts, and however
// many there are.
func TestP42OtherLengths(t *testing.T) {
	for _, n := range append(lengths, 255, 256, 257, 512, 1<<16, 1<<20) {
		if n == 0 {
			continue
		}
		compared(t, "noughts and nil", make([]byte, n), nil, false)
		compared(t, "a text and no bytes", filled(n), []byte{}, false)
		compared(t, "noughts behind a text", filled(3), with(filled(3), 3+n), false)
		compared(t, "more noughts", make([]byte, 3), make([]byte, 3+n), false)
		compared(t, "a beginning", filled(3), filled(3+n), false)
		compared(t, "an end", []byte{7}, append(make([]byte, n), 7), false)
	}
}

func TestP42HandedIn(t *testing.T) {
	for _, n := range lengths {
		a, b := random(n + 100)[:n], random(n + 200)[:n/2]
		mac.Same(a, b)
		mac.Same(b, a)
		equal(t, "the first", a[:n+100], random(n+100))
		equal(t, "the second", b[:n+200], random(n+200))
	}
}

// fastest tells how long Same takes of each pair, at best. The pairs take turns, so
// that whatever else the machine does falls on all of them.
func fastest(pairs [][2][]byte) []time.Duration {
	best := make([]time.Duration, len(pairs))
	for turn := range 25 {
		for i, pair := range pairs {
			begun := time.Now()
			mac.Same(pair[0], pair[1])
			if took := time.Since(begun); turn == 0 || took < best[i] {
				best[i] = took
			}
		}
	}
	return best
}

// All bytes are looked at, whatever differs: who stopped where the first byte
// differs would take a thousandth of the time or less, so a tenth tells it apart
// on any machine.
func TestP42AllLookedAt(t *testing.T) {
	const n = 1 << 20
	a := random(n)
	first, last := random(n), random(n)
	first[0] ^= 1
	last[n-1] ^= 1
	best := fastest([][2][]byte{
		{a, random(n)}, {a, last}, {a, first}, {a, a[:n-1]}, {a[:n-1], a}, {first, a[:n-1]}, {a, nil}, {nil, a},
	})
	for i, took := range best {
		if took < best[0]/10 {
			t.Errorf("pair %d takes %v, the same bytes %v", i, took, best[0])
		}
	}
}

func TestP43NoughtsBehindTheKey(t *testing.T) {
	text := random(100)
	for n := range blockSize + 1 {
		key := filled(n)
		tag := asked(key, text)
		for size := n; size <= blockSize; size++ {
			tagged(t, "noughts behind the key", tag, with(key, size), text)
		}
	}
}

func TestP43NoughtsAlone(t *testing.T) {
	text := []byte("text")
	tag := mac.Tag(nil, text)
	for n := range blockSize + 1 {
		tagged(t, "a key of noughts", tag, make([]byte, n), text)
	}
	refused(t, "noughts beyond the block", tag, make([]byte, blockSize+1), text)
}

// Beyond 64 bytes a nought is one more of the key, and it is the digest that stands
// for it.
func TestP43BeyondTheBlock(t *testing.T) {
	text := random(100)
	for n := range blockSize + 1 {
		refused(t, "noughts beyond the block", mac.Tag(filled(n), text), with(filled(n), blockSize+1), text)
	}
	for _, n := range []int{blockSize + 1, 100, 128, 500} {
		key := filled(n)
		tag := mac.Tag(key, text)
		refused(t, "a nought behind a long key", tag, with(key, n+1), text)
		refused(t, "the key's first block", tag, key[:blockSize], text)
		digest := sha256.Sum256(key)
		tagged(t, "the digest as the key", tag, digest[:], text)
		tagged(t, "the digest and noughts as the key", tag, with(digest[:], blockSize), text)
	}
	digest := sha256.Sum256(filled(blockSize))
	refused(t, "the digest of a block", mac.Tag(filled(blockSize), text), digest[:], text)
}

// A nought ahead of the key, or within it, plays a part.
func TestP43NoughtsElsewhere(t *testing.T) {
	text := random(100)
	for n := 1; n < blockSize; n++ {
		tag := mac.Tag(filled(n), text)
		refused(t, "a nought ahead of the key", tag, append([]byte{0}, filled(n)...), text)
		refused(t, "a nought within the key", tag, append(with(filled(n-1), n), 7), text)
		refused(t, "a byte 1 behind the key", tag, append(filled(n), 1), text)
	}
}

func BenchmarkTag(b *testing.B) {
	key, text := random(32), random(1<<16)
	b.SetBytes(int64(len(text)))
	for b.Loop() {
		mac.Tag(key, text)
	}
}
