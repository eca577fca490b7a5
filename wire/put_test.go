package wire_test

import (
	"bytes"
	"math"
	"testing"

	"ratline/wire"
)

// edges are lengths at which the size changes, with what they are put as.
var edges = []struct {
	n    int
	want []byte
}{
	{0, []byte{0}},
	{1, []byte{1}},
	{1<<6 - 1, []byte{0x3F}},
	{1 << 6, []byte{0x40, 0x40}},
	{1<<6 + 1, []byte{0x40, 0x41}},
	{0x1234, []byte{0x52, 0x34}},
	{1<<14 - 1, []byte{0x7F, 0xFF}},
	{1 << 14, []byte{0x80, 0, 0x40, 0}},
	{0x12345678, []byte{0x92, 0x34, 0x56, 0x78}},
	{1<<30 - 1, []byte{0xBF, 0xFF, 0xFF, 0xFF}},
}

// impossible are numbers that are no lengths.
var impossible = []int{-1, -64, math.MinInt, 1 << 30, 1<<30 + 1, 1 << 32, math.MaxInt}

// aheads are bytes behind which something is put.
var aheads = [][]byte{nil, {}, {9}, []byte("ab"), bytes.Repeat([]byte{0xC0}, 100)}

// notSizes are sizes that no number has.
var notSizes = []int{0, 3, 5, 6, 7, 9, 16, 64, -1, -8, math.MinInt, math.MaxInt, 1 << 32}

func same(t *testing.T, what string, got, want []byte) {
	t.Helper()
	if !bytes.Equal(got, want) {
		t.Errorf("%s: % x, not % x", what, got, want)
	}
}

func TestP11PutNum(t *testing.T) {
	for _, x := range []struct {
		size int
		n    uint64
		want []byte
	}{
		{1, 0, []byte{0}},
		{1, 0xFF, []byte{0xFF}},
		{1, 0x1FE, []byte{0xFE}},
		{2, 0x0102, []byte{1, 2}},
		{2, 0x30102, []byte{1, 2}},
		{4, 0x01020304, []byte{1, 2, 3, 4}},
		{4, 0x0901020304, []byte{1, 2, 3, 4}},
		{8, 0x0102030405060708, []byte{1, 2, 3, 4, 5, 6, 7, 8}},
		{8, math.MaxUint64, bytes.Repeat([]byte{0xFF}, 8)},
	} {
		same(t, "PutNum of nil", wire.PutNum(nil, x.size, x.n), x.want)
		same(t, "PutNum behind", wire.PutNum([]byte("ab"), x.size, x.n), append([]byte("ab"), x.want...))
	}
	for _, size := range notSizes {
		for _, ahead := range aheads {
			for _, n := range []uint64{0, 7, math.MaxUint64} {
				same(t, "PutNum of such a size", wire.PutNum(ahead, size, n), ahead)
			}
		}
	}
}

func TestP11PutLen(t *testing.T) {
	for _, x := range edges {
		same(t, "PutLen of nil", wire.PutLen(nil, x.n), x.want)
		same(t, "PutLen behind", wire.PutLen([]byte{9}, x.n), append([]byte{9}, x.want...))
		if got := wire.LenSize(x.n); got != len(x.want) {
			t.Errorf("LenSize(%d): %d", x.n, got)
		}
	}
	for _, n := range impossible {
		for _, ahead := range aheads {
			same(t, "PutLen of no length", wire.PutLen(ahead, n), ahead)
		}
		if got := wire.LenSize(n); got != 0 {
			t.Errorf("LenSize(%d): %d", n, got)
		}
	}
}

func TestP11PutVec(t *testing.T) {
	for _, x := range edges {
		if x.n > 1<<20 {
			continue
		}
		v := bytes.Repeat([]byte{7}, x.n)
		want := append(append([]byte{5}, x.want...), v...)
		same(t, "PutVec", wire.PutVec([]byte{5}, v), want)
	}
	same(t, "PutVec of nil", wire.PutVec(nil, nil), []byte{0})
}

func TestP11PutList(t *testing.T) {
	same(t, "PutList of nil", wire.PutList(nil, nil), []byte{0})
	same(t, "PutList of none", wire.PutList([]byte{5}, [][]byte{}), []byte{5, 0})
	same(t, "PutList of empty ones", wire.PutList([]byte{5}, [][]byte{nil, {}}), []byte{5, 2, 0, 0})
	same(t, "PutList", wire.PutList([]byte{5}, [][]byte{{1, 2}, nil, {3}}), []byte{5, 6, 2, 1, 2, 0, 1, 3})

	// 62 bytes with their length are the last ones in a vector of one byte.
	v := bytes.Repeat([]byte{7}, 62)
	same(t, "PutList of 63 bytes", wire.PutList(nil, [][]byte{v}), append([]byte{63, 62}, v...))
	same(t, "PutList of 64 bytes", wire.PutList(nil, [][]byte{v, nil}), append(append([]byte{0x40, 64, 62}, v...), 0))
}

func TestP11StaysAsItIs(t *testing.T) {
	for what, put := range map[string]func(b []byte) []byte{
		"PutNum":  func(b []byte) []byte { return wire.PutNum(b, 4, math.MaxUint64) },
		"PutLen":  func(b []byte) []byte { return wire.PutLen(b, 1<<14) },
		"PutVec":  func(b []byte) []byte { return wire.PutVec(b, []byte("xyz")) },
		"PutList": func(b []byte) []byte { return wire.PutList(b, [][]byte{[]byte("xyz")}) },

		"PutNum of such a size": func(b []byte) []byte { return wire.PutNum(b, 3, math.MaxUint64) },
		"PutLen of no length":   func(b []byte) []byte { return wire.PutLen(b, 1<<30) },
	} {
		all := bytes.Repeat([]byte{1}, 32)
		got := put(all[:3])
		same(t, what+" writes behind b", all, bytes.Repeat([]byte{1}, 32))
		got[0] = 2
		same(t, what+" shares b", all, bytes.Repeat([]byte{1}, 32))
	}
}

func TestP11TakesACopy(t *testing.T) {
	v := []byte("xyz")
	vec, list := wire.PutVec(nil, v), wire.PutList(nil, [][]byte{v})
	v[0] = 'a'
	same(t, "PutVec", vec, []byte("\x03xyz"))
	same(t, "PutList", list, []byte("\x04\x03xyz"))
	vec[1], list[2] = 'b', 'b'
	same(t, "what was put", v, []byte("ayz"))
}
