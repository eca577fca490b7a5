package wire_test

import (
	"bytes"
	"math"
	"testing"

	"ratline/api"
	"ratline/wire"
)

// fails asks that a call told nothing, that this is the reader's error, and
// that it stays, whatever is asked then.
func fails(t *testing.T, what string, r *wire.Reader, want api.Err) {
	t.Helper()
	if r.Err() != want || r.End() != want {
		t.Errorf("%s: Err %v, End %v, not %v", what, r.Err(), r.End(), want)
	}
	left := r.Left()
	tellsNothing(t, what, r)
	if r.Err() != want || r.End() != want || r.Left() != left {
		t.Errorf("%s: behind it Err %v, End %v, Left %d, not %v, %d", what, r.Err(), r.End(), r.Left(), want, left)
	}
}

func tellsNothing(t *testing.T, what string, r *wire.Reader) {
	t.Helper()
	for _, size := range []int{1, 2, 4, 8, 3} {
		if n := r.Num(size); n != 0 {
			t.Errorf("%s: Num(%d) tells %d", what, size, n)
		}
	}
	for _, n := range []int{0, 1, 2, -1} {
		if b := r.Take(n); len(b) != 0 {
			t.Errorf("%s: Take(%d) tells % x", what, n, b)
		}
	}
	if v := r.Vec(); len(v) != 0 {
		t.Errorf("%s: Vec tells % x", what, v)
	}
	if l := r.List(); len(l) != 0 {
		t.Errorf("%s: List tells % x", what, l)
	}
	if r.Flag() {
		t.Errorf("%s: Flag tells true", what)
	}
}

func TestP12Num(t *testing.T) {
	b := []byte{1, 2, 3, 4, 5, 6, 7, 8, 9, 10, 11, 12, 13, 14, 255}
	r := wire.NewReader(b)
	left := len(b)
	for _, x := range []struct {
		size int
		want uint64
	}{{2, 0x0102}, {4, 0x03040506}, {8, 0x0708090A0B0C0D0E}, {1, 255}} {
		if got := r.Num(x.size); got != x.want {
			t.Errorf("Num(%d): %x", x.size, got)
		}
		left -= x.size
		if r.Left() != left || r.Err() != api.OK {
			t.Errorf("Num(%d): Left %d, Err %v", x.size, r.Left(), r.Err())
		}
	}
	if r.End() != api.OK {
		t.Errorf("End: %v", r.End())
	}
}

func TestP12NumErrors(t *testing.T) {
	for _, size := range []int{1, 2, 4, 8} {
		r := wire.NewReader(bytes.Repeat([]byte{255}, size-1))
		if n := r.Num(size); n != 0 {
			t.Errorf("Num(%d) tells %d", size, n)
		}
		fails(t, "Num of too few bytes", r, api.End)
	}
	for _, size := range notSizes {
		for _, b := range [][]byte{nil, bytes.Repeat([]byte{1}, 20)} {
			r := wire.NewReader(b)
			if n := r.Num(size); n != 0 {
				t.Errorf("Num(%d) tells %d", size, n)
			}
			fails(t, "Num of such a size", r, api.Arg)
		}
	}
}

func TestP12Take(t *testing.T) {
	r := wire.NewReader([]byte{1, 2, 3})
	same(t, "Take of 0", r.Take(0), nil)
	same(t, "Take of 2", r.Take(2), []byte{1, 2})
	same(t, "Take of 1", r.Take(1), []byte{3})
	same(t, "Take of 0", r.Take(0), nil)
	if r.Err() != api.OK || r.End() != api.OK || r.Left() != 0 {
		t.Errorf("Err %v, End %v, Left %d", r.Err(), r.End(), r.Left())
	}
	for _, n := range []int{4, 1 << 30, math.MaxInt} {
		r := wire.NewReader([]byte{1, 2, 3})
		same(t, "Take of too many", r.Take(n), nil)
		fails(t, "Take of too many", r, api.End)
	}
	for _, n := range []int{-1, math.MinInt} {
		for _, b := range [][]byte{nil, {1, 2, 3}} {
			r := wire.NewReader(b)
			same(t, "Take below 0", r.Take(n), nil)
			fails(t, "Take below 0", r, api.Arg)
		}
	}
}

func TestP12Flag(t *testing.T) {
	r := wire.NewReader([]byte{1, 0, 1})
	if !r.Flag() || r.Flag() || !r.Flag() || r.End() != api.OK {
		t.Errorf("Flag: %v", r.End())
	}
	for _, x := range []byte{2, 3, 0x80, 255} {
		r := wire.NewReader([]byte{x, 1})
		if r.Flag() {
			t.Errorf("Flag of %d", x)
		}
		fails(t, "Flag above 1", r, api.Form)
	}
	r = wire.NewReader(nil)
	if r.Flag() {
		t.Error("Flag of nothing")
	}
	fails(t, "Flag of nothing", r, api.End)
}

func TestP12Vec(t *testing.T) {
	for _, x := range edges {
		if x.n > 1<<20 {
			continue
		}
		v := bytes.Repeat([]byte{0xC1}, x.n)
		r := wire.NewReader(append(append(append([]byte(nil), x.want...), v...), 9))
		same(t, "Vec", r.Vec(), v)
		if r.Left() != 1 || r.Err() != api.OK || r.End() != api.More {
			t.Errorf("Vec of %d bytes: Left %d, Err %v, End %v", x.n, r.Left(), r.Err(), r.End())
		}
	}
}

// badLengths are bytes of which no length is taken, or whose length counts
// more than there is.
var badLengths = []struct {
	what string
	b    []byte
	want api.Err
}{
	{"no byte", nil, api.End},
	{"two bits 3", []byte{0xC0}, api.Form},
	{"two bits 3, and more", []byte{0xFF, 0xFF, 0xFF, 0xFF, 0xFF}, api.Form},
	{"half of two bytes", []byte{0x41}, api.End},
	{"half of two bytes that have a shorter way", []byte{0x40}, api.End},
	{"three of four bytes", []byte{0x81, 0, 0}, api.End},
	{"three of four bytes that have a shorter way", []byte{0x80, 0, 0}, api.End},
	{"one of four bytes", []byte{0x80}, api.End},
	{"0 in two bytes", []byte{0x40, 0}, api.Form},
	{"63 in two bytes, and none of them", []byte{0x40, 63}, api.Form},
	{"63 in two bytes, and all of them", append([]byte{0x40, 63}, make([]byte, 63)...), api.Form},
	{"0 in four bytes", []byte{0x80, 0, 0, 0}, api.Form},
	{"2^14 - 1 in four bytes, and none of them", []byte{0x80, 0, 0x3F, 0xFF}, api.Form},
	{"2^14 - 1 in four bytes, and all of them", append([]byte{0x80, 0, 0x3F, 0xFF}, make([]byte, 1<<14)...), api.Form},
	{"1 and none of it", []byte{1}, api.End},
	{"3 and two of them", []byte{3, 1, 2}, api.End},
	{"64 and 63 of them", append([]byte{0x40, 64}, make([]byte, 63)...), api.End},
	{"2^14 and one less", append([]byte{0x80, 0, 0x40, 0}, make([]byte, 1<<14-1)...), api.End},
	{"2^30 - 1 and one of them", []byte{0xBF, 0xFF, 0xFF, 0xFF, 1}, api.End},
}

func TestP12LengthErrors(t *testing.T) {
	for _, x := range badLengths {
		r := wire.NewReader(x.b)
		same(t, "Vec of "+x.what, r.Vec(), nil)
		fails(t, "Vec of "+x.what, r, x.want)
		r = wire.NewReader(x.b)
		if l := r.List(); len(l) != 0 {
			t.Errorf("List of %s: % x", x.what, l)
		}
		fails(t, "List of "+x.what, r, x.want)
	}
}

func TestP12List(t *testing.T) {
	r := wire.NewReader([]byte{6, 2, 1, 2, 0, 1, 3, 0, 9})
	l := r.List()
	if len(l) != 3 {
		t.Fatalf("List: % x", l)
	}
	same(t, "List 0", l[0], []byte{1, 2})
	same(t, "List 1", l[1], nil)
	same(t, "List 2", l[2], []byte{3})
	if l := r.List(); len(l) != 0 || r.Err() != api.OK || r.Left() != 1 {
		t.Errorf("List of none: % x, %v, Left %d", l, r.Err(), r.Left())
	}
}

// What stands in a list can't be of End: the list's own bytes are there.
func TestP12ListForm(t *testing.T) {
	for _, x := range badLengths {
		if len(x.b) == 0 {
			continue
		}
		for _, ahead := range [][]byte{nil, {1, 7}} {
			inside := append(append([]byte(nil), ahead...), x.b...)
			// The bytes behind the list may not be taken for what it lacks.
			r := wire.NewReader(append(wire.PutVec(nil, inside), make([]byte, 70)...))
			if l := r.List(); len(l) != 0 {
				t.Errorf("List with %s: % x", x.what, l)
			}
			fails(t, "List with "+x.what, r, api.Form)
		}
	}
}

func TestP12FirstErrorStays(t *testing.T) {
	r := wire.NewReader([]byte{2, 0xC0})
	r.Flag()
	fails(t, "Form ahead of Arg and End", r, api.Form)
	r = wire.NewReader([]byte{2, 0xC0})
	r.Take(3)
	fails(t, "End ahead of Form", r, api.End)
	r = wire.NewReader([]byte{2, 0xC0})
	r.Num(3)
	fails(t, "Arg ahead of Form", r, api.Arg)
}

func TestP12End(t *testing.T) {
	r := wire.NewReader([]byte{1, 2})
	if r.End() != api.More || r.Err() != api.OK || r.Left() != 2 {
		t.Errorf("End ahead: %v, %v, %d", r.End(), r.Err(), r.Left())
	}
	// More is told, and isn't kept.
	same(t, "Take behind More", r.Take(2), []byte{1, 2})
	if r.End() != api.OK || r.Err() != api.OK || r.Left() != 0 {
		t.Errorf("End behind: %v, %v, %d", r.End(), r.Err(), r.Left())
	}
	for _, b := range [][]byte{nil, {}} {
		if r := wire.NewReader(b); r.End() != api.OK || r.Err() != api.OK || r.Left() != 0 {
			t.Errorf("no bytes: %v, %v, %d", r.End(), r.Err(), r.Left())
		}
	}
}

func TestP12Nil(t *testing.T) {
	var r *wire.Reader
	fails(t, "nil", r, api.Nil)
	if r.Left() != 0 {
		t.Errorf("nil: Left %d", r.Left())
	}
	if r := new(wire.Reader); r.End() != api.OK || r.Left() != 0 || r.Num(1) != 0 || r.Err() != api.End {
		t.Errorf("a zero reader: %v", r.Err())
	}
}

func TestP12NewMemory(t *testing.T) {
	whole := []byte{1, 7, 4, 1, 8, 1, 9, 5, 6}
	b := append([]byte(nil), whole...)
	r := wire.NewReader(b)
	clear(b)
	v := r.Vec()
	_ = append(v, 0xEE)
	l := r.List()
	if len(l) != 2 {
		t.Fatalf("List: % x, %v", l, r.Err())
	}
	_ = append(l[0], 0xEE, 0xEE)
	_ = append(l[1], 0xEE)
	same(t, "Vec", v, []byte{7})
	same(t, "List 0", l[0], []byte{8})
	same(t, "List 1", l[1], []byte{9})
	first := r.Take(1)
	_ = append(first, 0xEE)
	same(t, "Take", first, []byte{5})
	same(t, "Take", r.Take(1), []byte{6})

	b = append([]byte(nil), whole...)
	r = wire.NewReader(b)
	r.Vec()[0] = 0
	r.List()[0][0] = 0
	r.Take(2)[0] = 0
	same(t, "what was handed in", b, whole)
}
