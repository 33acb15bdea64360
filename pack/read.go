package pack

import "slices"

// Reader reads what U, I and S have written. One that is bad has no bytes left, so that all it reads fails anew.
type Reader struct {
	rest []byte
	bad  bool
}

// Read makes a Reader of b's bytes. They are copied: what the caller does with b later isn't read.
func Read(b []byte) *Reader { return &Reader{rest: slices.Clone(b)} }

// U reads a number.
func (r *Reader) U() uint64 {
	u, n := first(r.rest)
	if n == 0 {
		r.spoil()
		return 0
	}
	r.rest = r.rest[n:]
	return u
}

// I reads a number with a sign.
func (r *Reader) I() int64 {
	u := r.U()
	half := int64(u >> 1)
	if u%2 == 1 {
		return -half - 1
	}
	return half
}

// S reads a text.
func (r *Reader) S() string {
	n := r.U()
	if n > uint64(len(r.rest)) {
		r.spoil()
		return ""
	}
	s := string(r.rest[:n])
	r.rest = r.rest[n:]
	return s
}

// Left tells how many bytes are left.
func (r *Reader) Left() int { return len(r.rest) }

// Bad tells whether something could not be read.
func (r *Reader) Bad() bool { return r.bad }

// spoil makes the Reader bad for ever.
func (r *Reader) spoil() { r.rest, r.bad = nil, true }

// first reads the number that b begins with, and tells how many bytes it takes: none if U writes no such number.
func first(b []byte) (u uint64, n int) {
	for i, c := range b[:min(len(b), longest)] {
		u |= uint64(c%more) << (7 * i)
		if c >= more {
			continue
		}
		// A last byte of 0 could be left out; the tenth has room for the 64th bit alone.
		if i > 0 && c == 0 || i == longest-1 && c > 1 {
			return 0, 0
		}
		return u, i + 1
	}
	return 0, 0
}
