// Package num: checked sums, two limbs: see DOC.md, chapter 1.
package num

// Add adds.
func Add(a, b int64) (int64, bool) {
	s := a + b
	if turned(a, b, s) {
		return 0, false
	}
	return s, true
}

// Sub subtracts.
func Sub(a, b int64) (int64, bool) {
	d := a - b
	// a is b and d together: so the difference wrapped just where that sum would.
	if turned(b, d, a) {
		return 0, false
	}
	return d, true
}

// Mul multiplies.
func Mul(a, b int64) (int64, bool) { return product(a, b).narrow() }

// Floor divides, down.
func Floor(a, b int64) (int64, bool) {
	// Of the least number by -1 the quotient, 2^63, is the only one that is too great.
	if b == 0 || b == -1 && a == -1<<63 {
		return 0, false
	}
	q := a / b
	// Go cuts the quotient off towards 0, which is up where it is below 0.
	if a%b != 0 && (a < 0) != (b < 0) {
		q--
	}
	return q, true
}

// MulFloor multiplies and divides, down.
func MulFloor(a, b, c int64) (int64, bool) { return product(a, b).Floor(c) }

// turned tells whether s, the wrapped sum of a and b, is not their sum: only
// where a and b have one sign and s has the other.
func turned(a, b, s int64) bool { return (a < 0) == (b < 0) && (a < 0) != (s < 0) }
