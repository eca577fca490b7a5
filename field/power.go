package field

// Pow tells a to the power e, the lowest byte first.
func (a E) Pow(e []byte) E {
	power := Num(1)
	at := 8 * len(e)
lower:
	if at == 0 {
		return power
	}
	at--
	power = power.Square()
	if e[at/8]>>(at%8)&1 == 1 {
		power = power.Mul(a)
	}
	goto lower
}

// Inv tells what makes 1 by Mul, or 0 of 0.
func (a E) Inv() E {
	// To the power p - 2, since a to the power p - 1 is 1.
	return a.Pow(exponent(0xeb, 0x7f))
}

// Root tells the number that isn't odd whose square a is, and true; or 0, false.
func (a E) Root() (E, bool) {
	// p is 5 modulo 8: of a square r, to the power (p + 3) / 8, has a or -a as its
	// square, and a root of -1 turns the one into the other.
	r := a.Pow(exponent(0xfe, 0x0f))
	if !r.Square().Same(a) {
		r = r.Mul(rootOfLast())
	}
	if !r.Square().Same(a) {
		return E{}, false
	}
	if r.Odd() {
		r = r.Neg()
	}
	return r, true
}

// rootOfLast tells a root of p - 1.
func rootOfLast() E {
	return E{0xc4ee1b274a0ea0b0, 0x2f431806ad2fe478, 0x2b4d00993dfbd7a7, 0x2b8324804fc1df0b}
}

// exponent tells 32 bytes: the first and the last one, and between them 255
// each.
func exponent(first, last byte) []byte {
	e := make([]byte, size)
	for i := range e {
		e[i] = 255
	}
	e[0], e[size-1] = first, last
	return e
}
