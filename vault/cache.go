package vault

import (
	"slices"

	"publican/api"
	"publican/page"
)

// cache keeps the pages that were used last, the latest at the end.
type cache struct{ kept []numbered }

type numbered struct {
	number uint64
	page   page.Page
}

func (c *cache) size() int { return len(c.kept) }

// get finds a page, and keeps it longer than the others.
func (c *cache) get(n uint64) (page.Page, bool) {
	at := slices.IndexFunc(c.kept, func(k numbered) bool { return k.number == n })
	if at < 0 {
		return page.Page{}, false
	}
	found := c.kept[at]
	c.kept = append(slices.Delete(c.kept, at, at+1), found)
	return found.page, true
}

// put keeps a page; the one that was not used for longest goes, if there are too many.
func (c *cache) put(n uint64, p page.Page) {
	c.kept = slices.DeleteFunc(c.kept, func(k numbered) bool { return k.number == n })
	if len(c.kept) == api.MaxCached {
		c.kept = slices.Delete(c.kept, 0, 1)
	}
	c.kept = append(c.kept, numbered{n, p})
}
