package tree

import (
	"publican/api"
	"publican/page"
)

const (
	maxDeep = 20
	maxRead = 4096
)

// reader reads one call's pages. A shelf may have any pages, rings of them too: what it counts makes each call end.
type reader struct {
	shelf Shelf
	read  int
}

// page reads a page at a level of the tree (the root's is 1).
func (r *reader) page(n uint64, level int) (page.Page, api.Errno) {
	if level > maxDeep || r.read == maxRead {
		return page.Page{}, api.EFORM
	}
	r.read++
	p, e := r.shelf.Page(n)
	if e != api.OK {
		return page.Page{}, e
	}
	// Page's calls promise nothing of others, and kid 0 is no page.
	if !page.Good(p) {
		return page.Page{}, api.EFORM
	}
	return p, api.OK
}

// step is a branch on a way down, and which of its kids the way goes on with.
type step struct {
	branch page.Page
	kid    int
}

// descend goes down to the leaf where a key belongs.
func descend(s Shelf, root uint64, key string) ([]step, page.Page, api.Errno) {
	r := reader{shelf: s}
	var steps []step
	n := root
	for {
		p, e := r.page(n, len(steps)+1)
		if e != api.OK {
			return nil, page.Page{}, e
		}
		if p.Leaf {
			return steps, p, api.OK
		}
		at := p.Kid(key)
		steps = append(steps, step{p, at})
		n = p.Kids[at]
	}
}

// visit tells of each page, ahead of its kids, with its level.
func visit(s Shelf, root uint64, tell func(n uint64, level int)) api.Errno {
	if root == 0 {
		return api.OK
	}
	r := reader{shelf: s}
	return r.visit(root, 1, tell)
}

func (r *reader) visit(n uint64, level int, tell func(n uint64, level int)) api.Errno {
	p, e := r.page(n, level)
	if e != api.OK {
		return e
	}
	tell(n, level)
	for _, kid := range p.Kids {
		if e := r.visit(kid, level+1, tell); e != api.OK {
			return e
		}
	}
	return api.OK
}

// collector takes in the items of a range. It reads no page that can have none of them, and none behind the last one wanted.
type collector struct {
	reader
	from, to string
	most     int
	items    []Item
}

func (c *collector) full() bool { return len(c.items) >= c.most }

// ends tells whether a key, and all behind it, are past the range.
func (c *collector) ends(key string) bool { return c.to != "" && key >= c.to }

func (c *collector) collect(n uint64, level int) api.Errno {
	p, e := c.page(n, level)
	if e != api.OK {
		return e
	}
	if p.Leaf {
		c.take(p)
		return api.OK
	}
	first := p.Kid(c.from)
	for i, kid := range p.Kids[first:] {
		at := first + i
		if c.full() || at > 0 && c.ends(p.Keys[at-1]) {
			return api.OK
		}
		if e := c.collect(kid, level+1); e != api.OK {
			return e
		}
	}
	return api.OK
}

// take takes in a leaf's items.
func (c *collector) take(leaf page.Page) {
	first, _ := leaf.Find(c.from)
	for i, key := range leaf.Keys[first:] {
		if c.full() || c.ends(key) {
			return
		}
		c.items = append(c.items, Item{key, leaf.Vals[first+i]})
	}
}
