package vault

import (
	"maps"
	"math"
	"slices"

	"publican/api"
	"publican/page"
	"publican/tree"
)

// draft is a vault's tree, and what a commit has made of it so far: new pages are in memory till all changes are done. It is a tree's Shelf.
type draft struct {
	vault *Vault
	made  map[uint64]page.Page
	last  uint64
}

func (v *Vault) draft() *draft {
	return &draft{vault: v, made: map[uint64]page.Page{}, last: v.root.last}
}

// Page finds a page, made or kept.
func (d *draft) Page(n uint64) (page.Page, api.Errno) {
	if p, ok := d.made[n]; ok {
		return p, api.OK
	}
	return d.vault.page(n)
}

// Add makes one.
func (d *draft) Add(p page.Page) (uint64, api.Errno) {
	if d.last == math.MaxUint64 {
		return 0, api.EFULL
	}
	d.last++
	d.made[d.last] = p
	return d.last, api.OK
}

// page reads a page from the disk, but for those that are kept in memory.
func (v *Vault) page(n uint64) (page.Page, api.Errno) {
	// What is kept may not tell more than the disk would.
	if !v.disk.Power() {
		return page.Page{}, api.EOFF
	}
	if p, ok := v.cache.get(n); ok {
		return p, api.OK
	}
	at, ok := v.places[n]
	if !ok {
		return page.Page{}, api.EFORM
	}
	_, b, e := v.active.Get(at)
	if e != api.OK {
		return page.Page{}, e
	}
	_, p, ok := readPage(b)
	if !ok {
		return page.Page{}, api.EFORM
	}
	v.cache.put(n, p)
	return p, api.OK
}

// change does changes one by one, and answers the new root.
func (d *draft) change(l []Change) (uint64, api.Errno) {
	root := d.vault.root.page
	most := api.MaxPages
	for _, c := range l {
		n, e := d.changed(root, c)
		if e != api.OK {
			return 0, e
		}
		root = n
		// Each change leaves pages behind that no root reaches any more: many changes would fill the memory.
		if len(d.made) > most {
			d.prune(root)
			most = api.MaxPages + 2*len(d.made)
		}
	}
	d.prune(root)
	return root, api.OK
}

func (d *draft) changed(root uint64, c Change) (uint64, api.Errno) {
	if !c.Drop {
		return tree.Put(d, root, c.Key, c.Val)
	}
	n, e := tree.Drop(d, root, c.Key)
	if e == api.ENONE {
		return root, api.OK
	}
	return n, e
}

// prune forgets the made pages that a root does not reach. (An elder page has no made one below it.)
func (d *draft) prune(root uint64) {
	kept := map[uint64]page.Page{}
	todo := []uint64{root}
	for len(todo) > 0 {
		n := todo[len(todo)-1]
		todo = todo[:len(todo)-1]
		p, made := d.made[n]
		// What a disk says may be a ring.
		if _, known := kept[n]; !made || known {
			continue
		}
		kept[n] = p
		todo = append(todo, p.Kids...)
	}
	d.made = kept
}

// fresh tells the made pages' numbers, in the order in which they were made.
func (d *draft) fresh() []uint64 { return slices.Sorted(maps.Keys(d.made)) }

// reached tells all pages' numbers, from the root down: EFULL, if they are too many.
func (d *draft) reached(root uint64) ([]uint64, api.Errno) {
	return tree.Pages(&counted{d, api.MaxPages}, root)
}

// counted is a shelf of which no more than so many pages are read.
type counted struct {
	tree.Shelf
	left int
}

// Page finds a page, as long as it may.
func (c *counted) Page(n uint64) (page.Page, api.Errno) {
	if c.left == 0 {
		return page.Page{}, api.EFULL
	}
	c.left--
	return c.Shelf.Page(n)
}
