package vault

import (
	"math"

	"publican/api"
	"publican/disk"
	"publican/frame"
)

// side is what stands in one of the two areas.
type side struct {
	area   *frame.Area
	places map[uint64]int
	root   root
	rooted bool
}

// look reads an area's frames. The last one counts, of roots and of pages with one number; what is neither is passed over.
func look(d *disk.Disk, first, sectors int) (side, api.Errno) {
	area, e := frame.Open(d, first, sectors)
	if e != api.OK {
		return side{}, e
	}
	s := side{area: area, places: map[uint64]int{}}
	for _, at := range area.All() {
		kind, b, e := area.Get(at)
		if e != api.OK {
			return side{}, e
		}
		s.take(at, kind, b)
	}
	return s, api.OK
}

func (s *side) take(at int, kind byte, b []byte) {
	switch kind {
	case pageKind:
		if n, _, ok := readPage(b); ok {
			s.places[n] = at
		}
	case rootKind:
		if r, ok := readRoot(b); ok {
			s.root, s.rooted = r, true
		}
	}
}

// choose takes the side that has the tree for the active one.
func (v *Vault) choose(first, second side) {
	active, other := first, second
	if second.rooted && (!first.rooted || second.area.Life() > first.area.Life()) {
		active, other = second, first
	}
	v.active, v.other = active.area, other.area
	v.places, v.root = active.places, active.root
	if !active.rooted {
		v.begin()
	}
}

// begin makes a new vault. What stands in its area belongs to no commit.
func (v *Vault) begin() {
	life, ok := v.nextLife()
	v.worn = !ok
	v.active.Begin(life)
	v.places = map[uint64]int{}
}

// nextLife tells the life one above those of both areas, if there is one.
func (v *Vault) nextLife() (uint64, bool) {
	life := max(v.active.Life(), v.other.Life())
	return life + 1, life < math.MaxUint64
}
