package sign_test

import "testing"

func TestP103WhatIsSignedHolds(t *testing.T) {
	l := seeds()
	for i, seed := range l {
		key, other := public(t, seed), public(t, l[(i+1)%len(l)])
		for _, n := range []int{edges[i%len(edges)], edges[(3*i+1)%len(edges)]} {
			text := random(i, n)
			signature := signed(t, seed, text)
			holds(t, "under its own key", key, text, signature, true)
			holds(t, "under another key", other, text, signature, false)
			holds(t, "of another text", key, random(i, n+1), signature, false)
		}
	}
}

func TestP103WhatIsSignedWithALabelHolds(t *testing.T) {
	l := seeds()
	for i, seed := range l {
		key, other := public(t, seed), public(t, l[(i+1)%len(l)])
		name, text := names[i%len(names)], random(i, edges[(5*i+2)%len(edges)])
		signature := label(t, seed, name, text)
		checks(t, "under its own key", key, name, text, signature, true)
		checks(t, "under another key", other, name, text, signature, false)
		checks(t, "with another label", key, names[(i+1)%len(names)], text, signature, false)
		holds(t, "without a label", key, text, signature, false)
	}
}
