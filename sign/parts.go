package sign

import (
	"slices"

	"ratline/api"
	"ratline/curve"
	"ratline/long"
	"ratline/scalar"
	"ratline/wire"
)

const (
	// half is where a signature parts, into a point's bytes and a scalar's, and
	// where a seed's digest does, into the secret and the prefix.
	half = api.SignSize / 2

	protocol = "MLS 1.0 "
)

// labelled tells the parts of a text with a label.
func labelled(label string, text []byte) [][]byte {
	return [][]byte{wire.PutVec(nil, []byte(protocol+label)), wire.PutVec(nil, text)}
}

// signed tells the signature of a text, which is handed in in parts.
func signed(seed []byte, text ...[]byte) ([]byte, api.Err) {
	if len(seed) != api.KeySize {
		return nil, api.Arg
	}
	s, prefix := secrets(seed)
	r := number([][]byte{prefix}, text)
	point := often(r)
	k := number([][]byte{point, often(s)}, text)
	return append(point, r.Add(k.Mul(s)).Bytes()...), api.OK
}

// holds tells whether a signature of a text, which is handed in in parts, holds.
func holds(public, signature []byte, text ...[]byte) bool {
	if len(signature) != api.SignSize {
		return false
	}
	point, isPoint := curve.Of(signature[:half])
	s, isScalar := scalar.Exact(signature[half:])
	a, isPublic := curve.Of(public)
	if !isPoint || !isScalar || !isPublic {
		return false
	}
	k := number([][]byte{signature[:half], public}, text)
	return curve.Base().Mul(s).Same(point.Add(a.Mul(k)))
}

// secrets tells the secret of a seed, and its prefix.
func secrets(seed []byte) (scalar.S, []byte) {
	d := long.Sum(seed)
	d[0] &= 0xF8
	d[half-1] = d[half-1]&0x7F | 0x40
	return scalar.Of(d[:half]), d[half:]
}

// number tells the digest of a text, and of what stands ahead of it, as a scalar.
func number(ahead, text [][]byte) scalar.S {
	return scalar.Of(long.Of(slices.Concat(ahead, text)...))
}

// often tells the bytes of the base as often as s.
func often(s scalar.S) []byte {
	return curve.Base().Mul(s).Bytes()
}
