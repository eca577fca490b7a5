package wire_test

import (
	"bytes"
	"slices"
	"testing"

	"ratline/api"
	"ratline/wire"
)

// rough is a row of numbers that is the same in every run.
type rough uint64

func (s *rough) below(n int) int {
	*s = *s*6364136223846793005 + 1442695040888963407
	return int(uint64(*s>>33) % uint64(n))
}

func (s *rough) bytes(n int) []byte {
	b := make([]byte, n)
	for i := range b {
		b[i] = byte(s.below(256))
	}
	return b
}

func TestP13WhatIsPutIsTaken(t *testing.T) {
	s := rough(1)
	for range 300 {
		size := 1 << s.below(4)
		n := uint64(s.below(1<<30))<<34 | uint64(s.below(1<<30))
		n &= 1<<(8*size-1)<<1 - 1
		v := s.bytes(s.below(200))
		l := make([][]byte, s.below(6))
		for i := range l {
			l[i] = s.bytes(s.below(90))
		}
		b := wire.PutList(wire.PutVec(wire.PutNum(nil, size, n), v), l)
		r := wire.NewReader(b)
		if got := r.Num(size); got != n {
			t.Errorf("Num(%d): %x, not %x", size, got, n)
		}
		same(t, "Vec", r.Vec(), v)
		if got := r.List(); !slices.EqualFunc(got, l, bytes.Equal) {
			t.Errorf("List: % x, not % x", got, l)
		}
		if r.End() != api.OK {
			t.Errorf("End: %v", r.End())
		}
	}
}

func TestP13LongVectors(t *testing.T) {
	s := rough(2)
	for _, n := range []int{63, 64, 1<<14 - 1, 1 << 14, 1 << 20} {
		v := s.bytes(n)
		r := wire.NewReader(wire.PutVec(nil, v))
		same(t, "Vec", r.Vec(), v)
		r = wire.NewReader(wire.PutList(nil, [][]byte{v, v}))
		if l := r.List(); !slices.EqualFunc(l, [][]byte{v, v}, bytes.Equal) || r.End() != api.OK {
			t.Errorf("List of %d bytes: %v", n, r.End())
		}
	}
}

// taken asks that what is taken of b's beginning is put as it was there.
func taken(t *testing.T, b []byte) {
	t.Helper()
	r := wire.NewReader(b)
	if v := r.Vec(); r.Err() == api.OK {
		same(t, "PutVec", wire.PutVec(nil, v), b[:len(b)-r.Left()])
	}
	r = wire.NewReader(b)
	if l := r.List(); r.Err() == api.OK {
		same(t, "PutList", wire.PutList(nil, l), b[:len(b)-r.Left()])
	}
	for _, size := range []int{1, 2, 4, 8} {
		r = wire.NewReader(b)
		if n := r.Num(size); r.Err() == api.OK {
			same(t, "PutNum", wire.PutNum(nil, size, n), b[:size])
		}
	}
}

func TestP13WhatIsTakenIsPut(t *testing.T) {
	for i := range 1 << 16 {
		taken(t, []byte{byte(i >> 8), byte(i), 0, 1, 0})
	}
	s := rough(3)
	for range 3000 {
		b := s.bytes(s.below(150))
		if len(b) > 1 {
			// Most bytes ahead would count more than there are.
			b[0] = byte(s.below(3)<<6 | s.below(2))
		}
		taken(t, b)
	}
}
