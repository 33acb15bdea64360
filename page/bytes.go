package page

import (
	"publican/api"
	"publican/pack"
)

const (
	leafMark   = 76
	branchMark = 66
)

// Bytes tells how many bytes it has.
func Bytes(p Page) int { return len(Encode(p)) }

// Encode makes it bytes.
func Encode(p Page) []byte {
	b := head(p.Leaf, len(p.Keys))
	// pack copies what it writes behind: the bytes so far are not handed to it, or a great page would be copied with each key.
	if p.Leaf {
		for i, val := range p.values() {
			b = append(b, item(p.Keys[i], val)...)
		}
		return b
	}
	for _, key := range p.Keys {
		b = append(b, pack.S(nil, key)...)
	}
	for _, kid := range p.Kids {
		b = append(b, pack.U(nil, kid)...)
	}
	return b
}

// head is what stands ahead of a page's keys.
func head(leaf bool, keys int) []byte {
	mark := byte(branchMark)
	if leaf {
		mark = leafMark
	}
	return pack.U([]byte{mark}, uint64(keys))
}

// item is what stands for one key of a leaf.
func item(key, val string) []byte { return pack.S(pack.S(nil, key), val) }

// Decode reads it.
func Decode(b []byte) (Page, api.Errno) {
	if len(b) == 0 || b[0] != leafMark && b[0] != branchMark {
		return Page{}, api.EFORM
	}
	p := Page{Leaf: b[0] == leafMark}
	r := pack.Read(b[1:])
	// The bytes may tell of more keys than they have: what is bad ends the reading.
	for n := r.U(); n > 0 && !r.Bad(); n-- {
		p.Keys = append(p.Keys, r.S())
		if p.Leaf {
			p.Vals = append(p.Vals, r.S())
		}
	}
	if !p.Leaf {
		for range len(p.Keys) + 1 {
			p.Kids = append(p.Kids, r.U())
		}
	}
	if r.Bad() || r.Left() > 0 || !Good(p) {
		return Page{}, api.EFORM
	}
	return p, api.OK
}
