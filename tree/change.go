package tree

import (
	"slices"

	"publican/api"
	"publican/page"
)

// run is what comes in a page's place: no kid, one, or two with a key between them.
type run struct {
	keys []string
	kids []uint64
}

// climb goes up from a changed leaf, with a new page for each branch on the way, and answers the new root. What comes in a page's place is settled by settle.
func climb(s Shelf, steps []step, leaf page.Page, settle func(Shelf, page.Page) (run, api.Errno)) (uint64, api.Errno) {
	r, e := settle(s, leaf)
	for _, st := range slices.Backward(steps) {
		if e != api.OK {
			return 0, e
		}
		r, e = settle(s, st.with(r))
	}
	if e == api.OK && len(r.kids) > 1 {
		r, e = added(s, page.Page{Keys: r.keys, Kids: r.kids})
	}
	if e != api.OK || len(r.kids) == 0 {
		return 0, e
	}
	return r.kids[0], api.OK
}

// with makes a branch anew, with a run in its kid's place.
func (st step) with(r run) page.Page {
	keys, at := slices.Clone(st.branch.Keys), st.kid
	if len(r.kids) > 0 {
		keys = slices.Insert(keys, at, r.keys...)
	} else if len(keys) > 0 {
		// The kid goes with the key ahead of it; the first one has none ahead.
		gone := max(at-1, 0)
		keys = slices.Delete(keys, gone, gone+1)
	}
	return page.Page{Keys: keys, Kids: slices.Replace(slices.Clone(st.branch.Kids), at, at+1, r.kids...)}
}

// added adds a page to the shelf: as two, if it is too great.
func added(s Shelf, p page.Page) (run, api.Errno) {
	if page.Bytes(p) <= api.PageBytes {
		n, e := s.Add(p)
		return run{kids: []uint64{n}}, e
	}
	first, key, second := p.Split()
	one, e := s.Add(first)
	if e != api.OK {
		return run{}, e
	}
	two, e := s.Add(second)
	return run{keys: []string{key}, kids: []uint64{one, two}}, e
}

// left adds what a Drop leaves of a page, but an empty page is none, and one kid alone stands for its branch. A branch can still be too great then: its kid's new number may take more bytes than the old one.
func left(s Shelf, p page.Page) (run, api.Errno) {
	if p.Leaf && len(p.Keys) == 0 {
		return run{}, api.OK
	}
	if !p.Leaf && len(p.Kids) < 2 {
		return run{kids: p.Kids}, api.OK
	}
	return added(s, p)
}
