package dh_test

import (
	"bytes"
	"crypto/ecdh"
	"encoding/hex"
	"math/big"
	"math/rand"
	"slices"
	"strings"
	"testing"

	"ratline/api"
	"ratline/dh"
)

const size = 32

// published are keys, points and their products.
var published = []struct{ key, point, want string }{
	{
		"a546e36bf0527c9d3b16154b82465edd62144c0ac1fc5a18506a2244ba449ac4",
		"e6db6867583030db3594c1a424b15f7c726624ec26b3353b10a903a6d0ab1c4c",
		"c3da55379de9c6908e94ea4df28d084f32eccf03491c71f754b4075577a28552",
	},
	{
		"4b66e9d4d1b4673c5ad22691957d6af5c11b6421e0ea01d42ca4169e7918ba0d",
		"e5210f12786811d3f4b7959d0538ae2c31dbe7106fc03c3efc4cd549c715a493",
		"95cbde9476e8907d7aade45cb4b873f88b595a68799fa152e6f8f7647aac7957",
	},
}

// lost are the u below 2^255 of which all products are 0: 0, 1, p - 1, two
// others, and 0 and 1 with the prime on top.
var lost = []string{
	strings.Repeat("00", size),
	"01" + strings.Repeat("00", size-1),
	"ec" + strings.Repeat("ff", size-2) + "7f",
	"e0eb7a7c3b41b8ae1656e3faf19fc46ada098deb9c32b1fd866205165f49b800",
	"5f9c95bca3508c24b1d0b1559c83ef5b04445cc4581c8e86d8224eddd09f1157",
	"ed" + strings.Repeat("ff", size-2) + "7f",
	"ee" + strings.Repeat("ff", size-2) + "7f",
}

// lostPoints tells the bytes of all points of which all products are 0.
func lostPoints(t *testing.T) [][]byte {
	t.Helper()
	var l [][]byte
	for _, text := range lost {
		low := unhex(t, text)
		high := bytes.Clone(low)
		high[size-1] |= 128
		l = append(l, low, high)
	}
	return l
}

func unhex(t *testing.T, text string) []byte {
	t.Helper()
	b, err := hex.DecodeString(text)
	if err != nil {
		t.Fatal(err)
	}
	return b
}

// random tells size bytes, the same ones for the same seed.
func random(seed int) []byte {
	b := make([]byte, size)
	rand.New(rand.NewSource(int64(seed))).Read(b)
	return b
}

// lowFirst tells n's bytes, the lowest first.
func lowFirst(n *big.Int) []byte {
	b := n.FillBytes(make([]byte, size))
	slices.Reverse(b)
	return b
}

// whole tells the number of b, the lowest byte first.
func whole(b []byte) *big.Int {
	b = bytes.Clone(b)
	slices.Reverse(b)
	return new(big.Int).SetBytes(b)
}

// shifted tells 2^by, and more.
func shifted(by uint, more int64) *big.Int {
	n := new(big.Int).Lsh(big.NewInt(1), by)
	return n.Add(n, big.NewInt(more))
}

// numbers are the bytes of those drawn once for all, and of those about 0, the
// prime, the ends of words and of bytes, for keys as for points.
func numbers() [][]byte {
	l := [][]byte{bytes.Repeat([]byte{255}, size), bytes.Repeat([]byte{0xaa}, size)}
	for seed := range 30 {
		l = append(l, random(seed))
	}
	for more := int64(-21); more <= 21; more++ {
		l = append(l, lowFirst(shifted(255, more)))
	}
	for more := range int64(16) {
		l = append(l, lowFirst(big.NewInt(more)), lowFirst(shifted(256, -more-1)))
		l = append(l, lowFirst(shifted(uint(16*more+15), -more)), lowFirst(shifted(uint(16*more+8), more)))
	}
	return l
}

// asked tells the product by another program, which tells none that is 0.
func asked(t *testing.T, key, point []byte) []byte {
	t.Helper()
	k, err := ecdh.X25519().NewPrivateKey(key)
	if err != nil {
		t.Fatal(err)
	}
	p, err := ecdh.X25519().NewPublicKey(point)
	if err != nil {
		t.Fatal(err)
	}
	b, err := k.ECDH(p)
	if err != nil {
		return make([]byte, size)
	}
	return b
}

// is asks that an answer is the bytes wanted, without an error.
func is(t *testing.T, what string, got []byte, e api.Err, want []byte) {
	t.Helper()
	if e != api.OK || !bytes.Equal(got, want) {
		t.Errorf("%s: %x, %v, not %x", what, got, e, want)
	}
}

// fails asks that an answer is the error wanted, and no bytes.
func fails(t *testing.T, what string, got []byte, e, want api.Err) {
	t.Helper()
	if e != want || len(got) != 0 {
		t.Errorf("%s: %x, %v, not %v", what, got, e, want)
	}
}

// clamped tells what Clamp has to tell, by a number.
func clamped(key []byte) []byte {
	n := whole(key[:min(len(key), size)])
	for _, bit := range []int{0, 1, 2, 255} {
		n.SetBit(n, bit, 0)
	}
	return lowFirst(n.SetBit(n, 254, 1))
}

func TestP71Clamp(t *testing.T) {
	least := append(make([]byte, size-1), 0x40)
	most := append([]byte{0xf8}, bytes.Repeat([]byte{255}, size-2)...)
	most = append(most, 0x7f)
	for _, x := range []struct{ key, want []byte }{
		{nil, least},
		{[]byte{}, least},
		{[]byte{7}, least},
		{make([]byte, size), least},
		{bytes.Repeat([]byte{255}, size), most},
		{bytes.Repeat([]byte{255}, size+1), most},
		{[]byte{9, 5}, append([]byte{8, 5}, least[2:]...)},
	} {
		is(t, "Clamp", dh.Clamp(x.key), api.OK, x.want)
	}
	for _, key := range numbers() {
		is(t, "Clamp", dh.Clamp(key), api.OK, clamped(key))
		is(t, "Clamp of what is clamped", dh.Clamp(dh.Clamp(key)), api.OK, dh.Clamp(key))
	}
}

func TestP71ClampEachLength(t *testing.T) {
	long := slices.Concat(random(1), random(2), random(3))
	for n := range len(long) + 1 {
		want := clamped(long[:min(n, size)])
		is(t, "Clamp", dh.Clamp(long[:n]), api.OK, want)
		is(t, "Clamp with room behind it", dh.Clamp(long[:n:n]), api.OK, want)
	}
}

func TestP71ClampEachBit(t *testing.T) {
	for bit := range 8 * size {
		one := make([]byte, size)
		one[bit/8] = 1 << (bit % 8)
		is(t, "Clamp of one bit", dh.Clamp(one), api.OK, clamped(one))
		for i := range one {
			one[i] = ^one[i]
		}
		is(t, "Clamp of all bits but one", dh.Clamp(one), api.OK, clamped(one))
	}
}

func TestP71Example(t *testing.T) {
	b, e := dh.Base(make([]byte, size))
	is(t, "Base of 0", b, e, unhex(t, "2fe57da347cd62431528daac5fbb290730fff684afc4cfc2ed90995f58cb3b74"))
	b, e = dh.Base(dh.Clamp(nil))
	is(t, "Base of 0, clamped", b, e, unhex(t, "2fe57da347cd62431528daac5fbb290730fff684afc4cfc2ed90995f58cb3b74"))
}

func TestP71MulPublished(t *testing.T) {
	for _, x := range published {
		b, e := dh.Mul(unhex(t, x.key), unhex(t, x.point))
		is(t, "Mul", b, e, unhex(t, x.want))
	}
}

// The product becomes the key, and the key the point, again and again.
func TestP71MulAgain(t *testing.T) {
	key := append([]byte{9}, make([]byte, size-1)...)
	point := bytes.Clone(key)
	for i := range 1000 {
		b, e := dh.Mul(key, point)
		if e != api.OK {
			t.Fatalf("Mul: %v", e)
		}
		key, point = b, key
		if i == 0 {
			is(t, "once", key, e, unhex(t, "422c8e7a6227d7bca1350b3e2bb7279f7897b87bb6854b783c60e80311ae3079"))
		}
	}
	is(t, "1000 times", key, api.OK, unhex(t, "684cf59ba83309552800ef566f2f4d3c1c3887c49360e3875f2eb94d99532c51"))
}

func TestP71Mul(t *testing.T) {
	l := numbers()
	for i, key := range l {
		for j := i % 5; j < len(l); j += 5 {
			b, e := dh.Mul(key, l[j])
			is(t, "Mul", b, e, asked(t, key, l[j]))
		}
	}
}

// turned asks Mul with each bit turned of a key or a point: the product is
// another one but for those bits that play no part.
func turned(t *testing.T, key, point, which []byte, free func(bit int) bool) {
	t.Helper()
	was, _ := dh.Mul(key, point)
	for bit := range 8 * size {
		which[bit/8] ^= 1 << (bit % 8)
		b, e := dh.Mul(key, point)
		is(t, "Mul with one bit turned", b, e, asked(t, key, point))
		if bytes.Equal(b, was) != free(bit) {
			t.Errorf("bit %d turned: same product %v", bit, !free(bit))
		}
		which[bit/8] ^= 1 << (bit % 8)
	}
}

func TestP71MulEachBit(t *testing.T) {
	key, point := random(71), random(72)
	turned(t, key, point, key, func(bit int) bool { return bit < 3 || bit >= 254 })
	turned(t, key, point, point, func(bit int) bool { return bit == 255 })
}

// A point isn't refused for its number being above the prime.
func TestP71MulAboveThePrime(t *testing.T) {
	key := random(75)
	for n := range int64(19) {
		want, e := dh.Mul(key, lowFirst(big.NewInt(n)))
		is(t, "Mul of a few", want, e, asked(t, key, lowFirst(big.NewInt(n))))
		b, e := dh.Mul(key, lowFirst(shifted(255, n-19)))
		is(t, "Mul of a few and the prime", b, e, want)
		b, e = dh.Mul(key, lowFirst(new(big.Int).Add(shifted(255, n-19), shifted(255, 0))))
		is(t, "Mul of a few, the prime and the highest bit", b, e, want)
	}
}

// A product that is 0 is one, as far as Mul is asked.
func TestP71MulLost(t *testing.T) {
	for _, point := range lostPoints(t) {
		for _, key := range numbers() {
			b, e := dh.Mul(key, point)
			is(t, "Mul that comes to 0", b, e, make([]byte, size))
		}
	}
}

func TestP71Base(t *testing.T) {
	nine := append([]byte{9}, make([]byte, size-1)...)
	for _, key := range numbers() {
		b, e := dh.Base(key)
		is(t, "Base", b, e, asked(t, key, nine))
		b, e = dh.Base(dh.Clamp(key))
		is(t, "Base of a clamped key", b, e, asked(t, key, nine))
		b, e = dh.Mul(key, nine)
		is(t, "Mul of 9", b, e, asked(t, key, nine))
	}
}

// wrongs are bytes that haven't as many as a key and a point have.
func wrongs() [][]byte {
	l := [][]byte{nil}
	for n := range 3*size + 1 {
		if n != size {
			l = append(l, bytes.Repeat([]byte{9}, n))
		}
	}
	return append(l, make([]byte, api.MaxBytes))
}

func TestP71WrongLengths(t *testing.T) {
	right := random(76)
	for _, wrong := range wrongs() {
		b, e := dh.Mul(wrong, right)
		fails(t, "Mul of a wrong key", b, e, api.Arg)
		b, e = dh.Mul(right, wrong)
		fails(t, "Mul of a wrong point", b, e, api.Form)
		b, e = dh.Mul(wrong, wrong)
		fails(t, "Mul of a wrong key and a wrong point", b, e, api.Arg)
		b, e = dh.Base(wrong)
		fails(t, "Base of a wrong key", b, e, api.Arg)
	}
}

// What is handed in stays as it is, and what is told is the caller's.
func TestP71NothingShared(t *testing.T) {
	key, point := random(77), random(78)
	calls := []func() []byte{
		func() []byte { return dh.Clamp(key) },
		func() []byte { b, _ := dh.Mul(key, point); return b },
		func() []byte { b, _ := dh.Base(key); return b },
		func() []byte { b, _ := dh.Shared(key, point); return b },
		func() []byte { b, _ := dh.Mul(key, key); return b },
	}
	for i, call := range calls {
		told := call()
		want := bytes.Clone(told)
		clear(told[:cap(told)])
		if !bytes.Equal(key, random(77)) || !bytes.Equal(point, random(78)) {
			t.Fatalf("call %d changed what was handed in", i)
		}
		is(t, "again, behind a change of what was told", call(), api.OK, want)
	}
	clear(calls[0]())
	kept := dh.Clamp(key)
	clear(key)
	is(t, "behind a change of what was handed in", kept, api.OK, clamped(random(77)))
}

func BenchmarkMul(b *testing.B) {
	key, point := random(1), random(2)
	for b.Loop() {
		dh.Mul(key, point)
	}
}
