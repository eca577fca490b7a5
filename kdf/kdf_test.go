package kdf_test

import (
	"bytes"
	"crypto/hkdf"
	"crypto/sha256"
	"encoding/hex"
	"math"
	"math/rand"
	"strings"
	"testing"

	"ratline/api"
	"ratline/kdf"
)

const (
	mostBytes    = 8160
	mostLabelled = 1 << 20
)

// published are salts, secrets and infos, and what comes of them.
var published = []struct{ salt, secret, info, extracted, expanded string }{
	{
		"000102030405060708090a0b0c", strings.Repeat("0b", 22), "f0f1f2f3f4f5f6f7f8f9",
		"077709362c2e32df0ddc3f0dc47bba6390b6c73bb50f9c3122ec844ad7c2b3e5",
		"3cb25f25faacd57a90434f64d0362f2a2d2d0a90cf1a5a4c5db02d56ecc4c5bf34007208d5b887185865",
	},
	{
		hex.EncodeToString(rising(0x60, 80)), hex.EncodeToString(rising(0, 80)), hex.EncodeToString(rising(0xb0, 80)),
		"06a6b88c5853361a06104c9ceb35b45cef760014904671014a193f40c15fc244",
		"b11e398dc80327a1c8e7f78c596a49344f012eda2d4efad8a050cc4c19afa97c59045a99cac7827271cb41c65e590e09" +
			"da3275600c2f09b8367793a9aca3db71cc30c58179ec3e87c14c01d5c1f3434f1d87",
	},
	{
		"", strings.Repeat("0b", 22), "",
		"19ef24a32c717b167f33a91d6f648bdf96596776afdb6377ac434c1c293ccb04",
		"8da4e775a563c18f715f802a063c5a31b8a11f5c5ee1879ec3454e5f3c738d2d9d201395faa4b61a96c8",
	},
}

// lengths are those about the ends of blocks and of vectors.
var lengths = []int{0, 1, 31, 32, 33, 54, 55, 56, 63, 64, 65, 128, 300, 1<<14 - 9, 1<<14 - 8, 1<<14 - 1, 1 << 14}

// cuts are numbers of bytes about the ends of what is expanded block by block.
var cuts = []int{0, 1, 2, 12, 16, 31, 32, 33, 63, 64, 65, 255, 256, 257, 511, 512, 4096, 8127, 8128, 8129, 8159, 8160}

// wrongs are numbers of bytes that can't be, some of which a byte or two would
// take for others.
var wrongs = []int{-1, -2, -32, -65504, math.MinInt32, math.MinInt, 8161, 8192, 1 << 16, 1<<16 + 32, 1<<32 + 32, math.MaxInt}

// rising tells n bytes, each by 1 above the one ahead.
func rising(from byte, n int) []byte {
	b := make([]byte, n)
	for i := range b {
		b[i] = from + byte(i)
	}
	return b
}

// random tells n bytes, the same ones each time.
func random(n int) []byte {
	b := make([]byte, n)
	rand.New(rand.NewSource(int64(n))).Read(b)
	return b
}

func unhex(t *testing.T, text string) []byte {
	t.Helper()
	b, err := hex.DecodeString(text)
	if err != nil {
		t.Fatal(err)
	}
	return b
}

// vec tells a vector's bytes, laid together by hand.
func vec(v string) string {
	n := len(v)
	switch {
	case n < 1<<6:
		return string([]byte{byte(n)}) + v
	case n < 1<<14:
		return string([]byte{0x40 | byte(n>>8), byte(n)}) + v
	}
	return string([]byte{0x80 | byte(n>>24), byte(n >> 16), byte(n >> 8), byte(n)}) + v
}

// extracted tells by another program what is extracted.
func extracted(t *testing.T, salt, secret []byte) []byte {
	t.Helper()
	b, err := hkdf.Extract(sha256.New, secret, salt)
	if err != nil {
		t.Fatal(err)
	}
	return b
}

// expanded tells by another program what is expanded.
func expanded(t *testing.T, secret []byte, info string, n int) []byte {
	t.Helper()
	b, err := hkdf.Expand(sha256.New, secret, info, n)
	if err != nil {
		t.Fatal(err)
	}
	return b
}

// infoOf tells the info of a label and a context, laid together by hand.
func infoOf(label string, context []byte, n int) string {
	return string([]byte{byte(n >> 8), byte(n)}) + vec("MLS 1.0 "+label) + vec(string(context))
}

func equal(t *testing.T, what string, got, want []byte) {
	t.Helper()
	if !bytes.Equal(got, want) {
		t.Errorf("%s: %x, not %x", what, got, want)
	}
}

func unlike(t *testing.T, what string, got, other []byte) {
	t.Helper()
	if len(got) == 0 || bytes.Equal(got, other) {
		t.Errorf("%s: %x, just as %x", what, got, other)
	}
}

// expand asks Expand for what it tells, without an error.
func expand(t *testing.T, secret, info []byte, n int) []byte {
	t.Helper()
	b, e := kdf.Expand(secret, info, n)
	if e != api.OK || len(b) != n {
		t.Errorf("Expand to %d: %d bytes, %v", n, len(b), e)
	}
	return b
}

// label asks Label for what it tells, without an error.
func label(t *testing.T, secret []byte, label string, context []byte, n int) []byte {
	t.Helper()
	b, e := kdf.Label(secret, label, context, n)
	if e != api.OK || len(b) != n {
		t.Errorf("Label to %d: %d bytes, %v", n, len(b), e)
	}
	return b
}

func TestP51Published(t *testing.T) {
	for _, x := range published {
		secret := kdf.Extract(unhex(t, x.salt), unhex(t, x.secret))
		equal(t, "Extract", secret, unhex(t, x.extracted))
		want := unhex(t, x.expanded)
		equal(t, "Expand", expand(t, secret, unhex(t, x.info), len(want)), want)
	}
}

func TestP51Extract(t *testing.T) {
	for _, n := range lengths {
		for _, size := range lengths {
			equal(t, "Extract", kdf.Extract(random(n), random(size)), extracted(t, random(n), random(size)))
		}
	}
	equal(t, "of nothing", kdf.Extract(nil, nil), extracted(t, nil, nil))
	equal(t, "of no bytes", kdf.Extract([]byte{}, []byte{}), extracted(t, nil, nil))
	equal(t, "a salt of noughts", kdf.Extract(make([]byte, 32), random(32)), kdf.Extract(nil, random(32)))
	unlike(t, "salt and secret changed round", kdf.Extract(random(31), random(32)), kdf.Extract(random(32), random(31)))
}

func TestP51Expand(t *testing.T) {
	for _, size := range []int{0, 1, 31, 32, 63, 64, 65, 200} {
		for _, far := range []int{0, 1, 9, 31, 55, 64, 300} {
			secret, info := random(size), random(far)
			for _, n := range cuts {
				equal(t, "Expand", expand(t, secret, info, n), expanded(t, secret, string(info), n))
			}
		}
	}
	equal(t, "of nothing", expand(t, nil, nil, 40), expanded(t, nil, "", 40))
	equal(t, "of no bytes", expand(t, []byte{}, []byte{}, 40), expanded(t, nil, "", 40))
	long := random(1 << 20)
	equal(t, "of a long secret and info", expand(t, long, long, 70), expanded(t, long, string(long), 70))
}

func TestP51ExpandEachNumber(t *testing.T) {
	secret, info := random(32), random(5)
	for n := range 600 {
		equal(t, "Expand", expand(t, secret, info, n), expanded(t, secret, string(info), n))
	}
}

func TestP51ExpandToNothing(t *testing.T) {
	equal(t, "to 0 bytes", expand(t, random(32), random(5), 0), nil)
	equal(t, "of nothing to 0 bytes", expand(t, nil, nil, 0), nil)
	equal(t, "with a label to 0 bytes", label(t, random(32), "label", random(5), 0), nil)
}

func TestP51NumbersThatCantBe(t *testing.T) {
	for _, n := range wrongs {
		for _, secret := range [][]byte{nil, random(32)} {
			if b, e := kdf.Expand(secret, random(5), n); e != api.Arg || len(b) != 0 {
				t.Errorf("Expand to %d: %x, %v", n, b, e)
			}
			if b, e := kdf.Label(secret, "label", random(5), n); e != api.Arg || len(b) != 0 {
				t.Errorf("Label to %d: %x, %v", n, b, e)
			}
		}
	}
}

func TestP51Label(t *testing.T) {
	for _, size := range lengths {
		for _, far := range lengths {
			name, context := string(random(size)), random(far)
			want := expanded(t, random(32), infoOf(name, context, 32), 32)
			equal(t, "Label", label(t, random(32), name, context, 32), want)
		}
	}
	for _, n := range cuts {
		for _, secret := range [][]byte{nil, random(32), random(65)} {
			want := expanded(t, secret, infoOf("key", []byte("here"), n), n)
			equal(t, "Label", label(t, secret, "key", []byte("here"), n), want)
		}
	}
	want := expanded(t, nil, "\x00\x28\x08MLS 1.0 \x00", 40)
	equal(t, "of nothing", label(t, nil, "", nil, 40), want)
	equal(t, "of no bytes", label(t, []byte{}, "", []byte{}, 40), want)
}

// A label is bytes, whether they are a text or not.
func TestP51LabelOfAnyBytes(t *testing.T) {
	for _, name := range []string{"\x00", "\xff\xfe", "schlüssel", "a\x00b", "MLS 1.0 ", " key", "key "} {
		want := expanded(t, random(32), infoOf(name, nil, 32), 32)
		equal(t, name, label(t, random(32), name, nil, 32), want)
		equal(t, name, kdf.Secret(random(32), name), want)
	}
}

// Where the label ends, and how many bytes are told, play a part.
func TestP51LabelsApart(t *testing.T) {
	secret := random(32)
	told := label(t, secret, "key", []byte("here"), 32)
	unlike(t, "a byte of the context at the label", label(t, secret, "keyh", []byte("ere"), 32), told)
	unlike(t, "another label", label(t, secret, "kez", []byte("here"), 32), told)
	unlike(t, "another context", label(t, secret, "key", []byte("her"), 32), told)
	unlike(t, "no context", label(t, secret, "key", nil, 32), told)
	unlike(t, "another secret", label(t, random(31), "key", []byte("here"), 32), told)
	unlike(t, "a byte less", label(t, secret, "key", []byte("here"), 31), told[:31])
	unlike(t, "a block more", label(t, secret, "key", []byte("here"), 64)[:32], told)
}

func TestP51Large(t *testing.T) {
	secret := random(32)
	most, more := strings.Repeat("x", mostLabelled), strings.Repeat("x", mostLabelled+1)
	want := expanded(t, secret, infoOf(most, []byte(most), 33), 33)
	equal(t, "the longest label and context", label(t, secret, most, []byte(most), 33), want)
	for _, x := range []struct {
		name, context string
		n             int
		want          api.Err
	}{
		{more, "", 32, api.Large},
		{"", more, 32, api.Large},
		{more, more, 32, api.Large},
		{more, most, 0, api.Large},
		{most, more, mostBytes, api.Large},
		{more + more, "", 32, api.Large},
		{more, "", -1, api.Arg},
		{"", more, mostBytes + 1, api.Arg},
		{more, more, math.MinInt, api.Arg},
	} {
		b, e := kdf.Label(secret, x.name, []byte(x.context), x.n)
		if e != x.want || len(b) != 0 {
			t.Errorf("a label of %d bytes, a context of %d, to %d: %x, %v, not %v", len(x.name), len(x.context), x.n, b, e, x.want)
		}
	}
}

func TestP51Secret(t *testing.T) {
	for _, size := range lengths {
		for _, far := range []int{0, 1, 32, 64, 65} {
			name := string(random(size))
			want := expanded(t, random(far), infoOf(name, nil, 32), 32)
			equal(t, "Secret", kdf.Secret(random(far), name), want)
			equal(t, "Label without a context", label(t, random(far), name, nil, 32), want)
		}
	}
	want := expanded(t, nil, "\x00\x20\x08MLS 1.0 \x00", 32)
	equal(t, "of nothing", kdf.Secret(nil, ""), want)
	equal(t, "of no bytes", kdf.Secret([]byte{}, ""), want)
	equal(t, "init", kdf.Secret(random(32), "init"), expanded(t, random(32), "\x00\x20\x0cMLS 1.0 init\x00", 32))
}

func TestP51SecretLarge(t *testing.T) {
	most := strings.Repeat("x", mostLabelled)
	equal(t, "the longest label", kdf.Secret(random(32), most), expanded(t, random(32), infoOf(most, nil, 32), 32))
	equal(t, "a byte more", kdf.Secret(random(32), most+"x"), nil)
	equal(t, "twice as long", kdf.Secret(nil, most+most), nil)
}

// What is handed in stays as it is, and what is behind its end too.
func TestP51HandedIn(t *testing.T) {
	for _, n := range lengths {
		salt, secret, info := random(n + 70)[:n], random(n + 80)[:n], random(n + 90)[:n]
		kdf.Extract(salt, secret)
		kdf.Expand(secret, info, 100)
		kdf.Label(secret, "label", info, 100)
		kdf.Secret(secret, "label")
		kdf.Ref("label", info)
		equal(t, "the salt", salt[:n+70], random(n+70))
		equal(t, "the secret", secret[:n+80], random(n+80))
		equal(t, "the info", info[:n+90], random(n+90))
	}
}

// What is told is the caller's, and hangs on nothing that was told before.
func TestP51Told(t *testing.T) {
	secret, info := random(32), random(33)
	all := func() [][]byte {
		return [][]byte{
			kdf.Extract(info, secret), expand(t, secret, info, 100), label(t, secret, "label", info, 100),
			kdf.Secret(secret, "label"), kdf.Ref("label", info),
		}
	}
	first, second := all(), all()
	for i := range first {
		want := bytes.Clone(second[i])
		clear(first[i][:cap(first[i])])
		equal(t, "what was told second", second[i], want)
	}
	equal(t, "the secret", secret, random(32))
	equal(t, "the info", info, random(33))
	third := all()
	for i := range third {
		equal(t, "told once more", third[i], second[i])
	}
}

// No more bytes are told than were asked for, not even behind the list's end.
func TestP51NothingBehind(t *testing.T) {
	for _, n := range cuts {
		b := expand(t, random(32), nil, n)
		equal(t, "behind the end", b[n:cap(b)], make([]byte, cap(b)-n))
	}
}

func TestP52Ref(t *testing.T) {
	for _, size := range append(lengths, mostLabelled, mostLabelled+1) {
		for _, far := range append(lengths, 1<<20+1) {
			name, b := string(random(size)), random(far)
			want := sha256.Sum256([]byte(vec(name) + vec(string(b))))
			equal(t, "Ref", kdf.Ref(name, b), want[:])
		}
	}
	want := sha256.Sum256([]byte("\x00\x00"))
	equal(t, "of nothing", kdf.Ref("", nil), want[:])
	equal(t, "of no bytes", kdf.Ref("", []byte{}), want[:])
	want = sha256.Sum256([]byte("\x1dMLS 1.0 KeyPackage Reference!\x02hi"))
	equal(t, "a label as it is", kdf.Ref("MLS 1.0 KeyPackage Reference!", []byte("hi")), want[:])
}

func TestP52RefsApart(t *testing.T) {
	told := kdf.Ref("ab", []byte("cd"))
	unlike(t, "a byte at the label", kdf.Ref("abc", []byte("d")), told)
	unlike(t, "a byte at the bytes", kdf.Ref("a", []byte("bcd")), told)
	unlike(t, "label and bytes changed round", kdf.Ref("cd", []byte("ab")), told)
	unlike(t, "all at the label", kdf.Ref("ab\x02cd", nil), told)
	unlike(t, "other bytes", kdf.Ref("ab", []byte("ce")), told)
}

func TestP53CutShort(t *testing.T) {
	for _, info := range [][]byte{nil, random(5), random(100)} {
		most := expand(t, random(32), info, mostBytes)
		for n := 0; n <= mostBytes; n += 1 + n/40 {
			equal(t, "cut short", expand(t, random(32), info, n), most[:n])
		}
		for _, n := range cuts {
			equal(t, "cut short", expand(t, random(32), info, n), most[:n])
		}
	}
}

// Each block is another one, also where the byte that counts them is at its end.
func TestP53BlocksApart(t *testing.T) {
	most := expand(t, random(32), random(5), mostBytes)
	seen := map[string]bool{}
	for at := 0; at < mostBytes; at += 32 {
		seen[string(most[at:at+32])] = true
	}
	if len(seen) != 255 {
		t.Errorf("%d blocks, not 255", len(seen))
	}
}

func BenchmarkSecret(b *testing.B) {
	secret := random(32)
	for b.Loop() {
		kdf.Secret(secret, "label")
	}
}
