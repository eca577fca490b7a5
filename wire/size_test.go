package wire

import "testing"

// One test asks all that is too long, so that a gigabyte is laid out but once,
// and never touched. For the same reason the longest list is asked by its
// length alone.
func TestP11TooLong(t *testing.T) {
	huge := make([]byte, 1<<30)
	half := huge[:1<<29]
	if got := PutVec([]byte{5}, huge); len(got) != 0 {
		t.Errorf("PutVec of 2^30 bytes: %d bytes", len(got))
	}
	for i, l := range [][][]byte{
		{huge},
		{huge[:1<<30-4]}, // with its length just 2^30
		{half, half},
		{half, half, half, half},
		{nil, huge[:1<<30-5]},
	} {
		if got := PutList([]byte{5}, l); len(got) != 0 {
			t.Errorf("PutList of too much, %d: %d bytes", i, len(got))
		}
	}
	if n, ok := listLen([][]byte{huge[:1<<30-5]}); n != 1<<30-1 || !ok {
		t.Errorf("a list of 2^30 - 1 bytes: %d, %v", n, ok)
	}
}
