package wire

import "ratline/api"

// Reader takes what stands next in bytes. What can't be taken is left where
// it is.
type Reader struct {
	rest []byte
	err  api.Err
}

// NewReader tells a reader of b.
func NewReader(b []byte) *Reader {
	// A copy, since b may be changed from outside while it is read.
	return &Reader{rest: clone(b)}
}

// Num takes a number of so many bytes.
func (r *Reader) Num(size int) uint64 {
	if r.Err() != api.OK {
		return 0
	}
	if !isNumSize(size) {
		r.err = api.Arg
		return 0
	}
	return joined(0, r.next(size))
}

// Vec takes a vector.
func (r *Reader) Vec() []byte {
	if r.Err() != api.OK {
		return nil
	}
	return clone(r.nextVec())
}

// List takes a vector of vectors.
func (r *Reader) List() [][]byte {
	if r.Err() != api.OK {
		return nil
	}
	ahead := r.rest
	inner := Reader{rest: r.nextVec()}
	var l [][]byte
	for len(inner.rest) > 0 {
		l = append(l, clone(inner.nextVec()))
		if inner.err != api.OK {
			// Even an End is one of Form: the list's own bytes are all there.
			r.rest, r.err = ahead, api.Form
			return nil
		}
	}
	return l
}

// Flag takes a byte 0 or 1.
func (r *Reader) Flag() bool {
	if r.Err() != api.OK {
		return false
	}
	if len(r.rest) > 0 && r.rest[0] > 1 {
		r.err = api.Form
		return false
	}
	return joined(0, r.next(1)) == 1
}

// Take takes n bytes.
func (r *Reader) Take(n int) []byte {
	if r.Err() != api.OK {
		return nil
	}
	if n < 0 {
		r.err = api.Arg
		return nil
	}
	return clone(r.next(n))
}

// Left tells how many bytes are left.
func (r *Reader) Left() int {
	if r == nil {
		return 0
	}
	return len(r.rest)
}

// Err tells the first error.
func (r *Reader) Err() api.Err {
	if r == nil {
		return api.Nil
	}
	return r.err
}

// End tells the first error, or More, if bytes are left.
func (r *Reader) End() api.Err {
	if e := r.Err(); e != api.OK {
		return e
	}
	if len(r.rest) > 0 {
		return api.More
	}
	return api.OK
}

// next takes n bytes without a copy; after an error it isn't called.
func (r *Reader) next(n int) []byte {
	if n > len(r.rest) {
		r.err = api.End
		return nil
	}
	b := r.rest[:n]
	r.rest = r.rest[n:]
	return b
}

// nextVec takes a vector without a copy; after an error it isn't called.
func (r *Reader) nextVec() []byte {
	n, size, e := lengthOf(r.rest)
	if e == api.OK && n > len(r.rest)-size {
		e = api.End
	}
	if e != api.OK {
		r.err = e
		return nil
	}
	return r.next(size + n)[size:]
}

// lengthOf tells the length that stands ahead in b, and its size.
func lengthOf(b []byte) (n, size int, e api.Err) {
	if len(b) == 0 {
		return 0, 0, api.End
	}
	mark := b[0] >> 6
	if mark == 3 {
		return 0, 0, api.Form
	}
	whole := 1 << mark
	if len(b) < whole {
		return 0, 0, api.End
	}
	read, size := uint64(b[0]%inOne), 1
wider:
	if size < whole {
		read, size = joined(read, b[size:2*size]), 2*size
		goto wider
	}
	if LenSize(int(read)) != size {
		return 0, 0, api.Form
	}
	return int(read), size, api.OK
}

// joined tells the number that n's bytes and those of b make.
func joined(n uint64, b []byte) uint64 {
	for _, x := range b {
		n = n<<8 | uint64(x)
	}
	return n
}

func clone(b []byte) []byte {
	return append([]byte(nil), b...)
}
