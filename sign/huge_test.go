package sign_test

import (
	"testing"

	"ratline/sign"
)

// No vector is so long as this text. It isn't touched: this file's name comes
// first, so that nothing has used its memory ahead.
func TestP103TooLongForAVector(t *testing.T) {
	huge := make([]byte, 1<<30)
	seed := random(1, size)
	key, signature := public(t, seed), label(t, seed, "name", huge)
	checks(t, "under its own key", key, "name", huge[:0], signature, false)
	if !sign.Check(key, "name", huge, signature) {
		t.Error("what is signed doesn't hold")
	}
}
