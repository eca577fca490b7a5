package hpke

import (
	"slices"

	"ratline/kdf"
	"ratline/wire"
)

// name is what stands ahead of a label, so that what pairs and what boxes come of are
// never the same.
type name string

const (
	ofPair name = "KEM\x00\x20"
	ofBox  name = "HPKE\x00\x20\x00\x01\x00\x01"
)

const (
	version  = "HPKE-v1"
	protocol = "MLS 1.0 "
)

// extract tells what is extracted with a label, of a secret in parts.
func (n name) extract(salt []byte, label string, secret ...[]byte) []byte {
	return kdf.Extract(salt, n.labelled(label, secret...))
}

// expand tells a secret, expanded to size bytes with a label, the info being in parts.
func (n name) expand(secret []byte, size int, label string, info ...[]byte) []byte {
	row := slices.Concat(wire.PutNum(nil, 2, uint64(size)), n.labelled(label, info...))
	told, _ := kdf.Expand(secret, row, size)
	return told
}

// labelled tells all parts in a row, behind the name and a label.
func (n name) labelled(label string, parts ...[]byte) []byte {
	row := []byte(version + string(n) + label)
	return append(row, slices.Concat(parts...)...)
}

// infoOf tells the info of a label and a context.
func infoOf(label string, context []byte) []byte {
	return wire.PutVec(wire.PutVec(nil, []byte(protocol+label)), context)
}
