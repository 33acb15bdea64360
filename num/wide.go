package num

import "math/bits"

// Wide is a number of two limbs.
type Wide struct {
	Hi int64
	Lo uint64
}

// Of makes a number wide.
func Of(a int64) Wide {
	if a < 0 {
		return Wide{Hi: -1, Lo: uint64(a)}
	}
	return Wide{Lo: uint64(a)}
}

// Plus adds.
func (w Wide) Plus(v Wide) (Wide, bool) {
	lo, carry := bits.Add64(w.Lo, v.Lo, 0)
	hi := w.Hi + v.Hi + int64(carry)
	// The sign of a Wide is its upper limb's, so the wrap shows there, carry and all.
	if turned(w.Hi, v.Hi, hi) {
		return Wide{}, false
	}
	return Wide{Hi: hi, Lo: lo}, true
}

// PlusMul adds a product.
func (w Wide) PlusMul(a, b int64) (Wide, bool) { return w.Plus(product(a, b)) }

// Minus turns the sign.
func (w Wide) Minus() (Wide, bool) {
	if w.Hi == -1<<63 && w.Lo == 0 {
		return Wide{}, false
	}
	lo, borrow := bits.Sub64(0, w.Lo, 0)
	return Wide{Hi: -w.Hi - int64(borrow), Lo: lo}, true
}

// Cmp compares.
func (w Wide) Cmp(v Wide) int {
	switch {
	case w.Hi < v.Hi || w.Hi == v.Hi && w.Lo < v.Lo:
		return -1
	case w == v:
		return 0
	}
	return 1
}

// Floor divides, down.
func (w Wide) Floor(c int64) (int64, bool) {
	if c < 1 {
		return 0, false
	}
	// c is above 0: this always is a number.
	hi, _ := Floor(w.Hi, c)
	// What is left of the upper limb is from 0 to c - 1 (division down leaves
	// nothing below 0), as Div64 asks; so the lower limb needs no care for signs.
	left := w.Hi - hi*c
	lo, _ := bits.Div64(uint64(left), w.Lo, uint64(c))
	return Wide{Hi: hi, Lo: lo}.narrow()
}

// product multiplies, exactly: it is from -2^126 to 2^126, so it always is a Wide.
func product(a, b int64) Wide {
	hi, lo := bits.Mul64(uint64(a), uint64(b))
	// Mul64 takes a number below 0 as 2^64 more than it is.
	if a < 0 {
		hi -= uint64(b)
	}
	if b < 0 {
		hi -= uint64(a)
	}
	return Wide{Hi: int64(hi), Lo: lo}
}

// narrow makes it a number of one limb, if it is from -2^63 to 2^63 - 1.
func (w Wide) narrow() (int64, bool) {
	a := int64(w.Lo)
	if Of(a) != w {
		return 0, false
	}
	return a, true
}
