package vault

import (
	"maps"
	"math"

	"publican/api"
	"publican/frame"
)

// commit does changes on the tree, and writes what came of them.
func (v *Vault) commit(l []Change) api.Errno {
	d := v.draft()
	top, e := d.change(l)
	if e != api.OK || top == v.root.page {
		return e
	}
	pages, e := d.reached(top)
	if e != api.OK {
		return e
	}
	if v.worn || v.root.commit == math.MaxUint64 {
		return api.EFULL
	}
	e = v.grow(newPlan(d, top, d.fresh(), v.root.last))
	if e == api.EFULL {
		e = v.move(newPlan(d, top, pages, 0))
	}
	if e == api.OK {
		v.pages = len(pages)
	}
	return e
}

// grow writes what is new behind what the active area has.
func (v *Vault) grow(p plan) api.Errno {
	if e := p.fits(v.active.Room()); e != api.OK {
		return e
	}
	places, e := p.write(v.active)
	if e != api.OK {
		return e
	}
	maps.Copy(v.places, places)
	v.root = p.root
	return api.OK
}

// move writes the whole tree into the other area. It is begun when nothing but the disk can refuse any more.
func (v *Vault) move(p plan) api.Errno {
	life, ok := v.nextLife()
	if !ok {
		return api.EFULL
	}
	if e := p.fits(v.half()); e != api.OK {
		return e
	}
	v.other.Begin(life)
	places, e := p.write(v.other)
	if e != api.OK {
		return e
	}
	v.active, v.other = v.other, v.active
	v.places, v.root = places, p.root
	// The numbers that the pages are kept under were the other area's.
	v.cache = cache{}
	v.moves++
	return api.OK
}

// plan is what a commit writes: pages under new numbers, then a root.
type plan struct {
	draft   *draft
	pages   []uint64
	numbers map[uint64]uint64
	root    root
}

// newPlan gives pages numbers behind the last one's, in their order.
func newPlan(d *draft, top uint64, pages []uint64, last uint64) plan {
	p := plan{draft: d, pages: pages, numbers: map[uint64]uint64{}}
	for _, n := range pages {
		last++
		p.numbers[n] = last
	}
	p.root = root{commit: d.vault.root.commit + 1, page: p.number(top), last: last}
	return p
}

// number tells a page's new number; one that is not written anew keeps its own.
func (p plan) number(n uint64) uint64 {
	if m, ok := p.numbers[n]; ok {
		return m
	}
	return n
}

// fits tells by EFULL that so many sectors are not enough.
func (p plan) fits(sectors int) api.Errno {
	sizes := []int{len(p.root.payload())}
	e := p.each(func(n uint64, b []byte) api.Errno {
		sizes = append(sizes, len(b))
		return api.OK
	})
	if e == api.OK && !frame.Fits(sectors, sizes...) {
		return api.EFULL
	}
	return e
}

// write adds the frames, and answers where the pages begin. The root is the last one: till it stands, the one ahead counts.
func (p plan) write(a *frame.Area) (map[uint64]int, api.Errno) {
	places := map[uint64]int{}
	e := p.each(func(n uint64, b []byte) api.Errno {
		at, e := a.Add(pageKind, b)
		places[n] = at
		return e
	})
	if e == api.OK {
		_, e = a.Add(rootKind, p.root.payload())
	}
	return places, e
}

// each hands out the pages' numbers and payloads, one by one: a move has more pages than may be in memory at once.
func (p plan) each(use func(n uint64, b []byte) api.Errno) api.Errno {
	for _, n := range p.pages {
		b, e := p.payload(n)
		if e == api.OK {
			e = use(p.number(n), b)
		}
		if e != api.OK {
			return e
		}
	}
	return api.OK
}

// payload makes a page's bytes, with its kids' new numbers.
func (p plan) payload(n uint64) ([]byte, api.Errno) {
	q, e := p.draft.Page(n)
	if e != api.OK {
		return nil, e
	}
	// The page itself may be in the cache: it stays as it is.
	kids := make([]uint64, len(q.Kids))
	for i, kid := range q.Kids {
		kids[i] = p.number(kid)
	}
	q.Kids = kids
	return pagePayload(p.number(n), q), api.OK
}
