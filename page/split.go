package page

import (
	"slices"

	"publican/api"
)

// Split makes two of one.
func (p Page) Split() (Page, string, Page) {
	switch n := len(p.Keys); {
	case p.Leaf && n >= 2:
		return p.splitLeaf()
	case !p.Leaf && n >= 3:
		return p.splitBranch()
	}
	return p.copied(), "", Page{}
}

func (p Page) splitLeaf() (Page, string, Page) {
	vals := p.values()
	sizes := make([]int, len(vals))
	for i, val := range vals {
		sizes[i] = len(item(p.Keys[i], val))
	}
	at := middle(sizes)
	first := Page{Leaf: true, Keys: slices.Clone(p.Keys[:at]), Vals: slices.Clone(vals[:at])}
	second := Page{Leaf: true, Keys: slices.Clone(p.Keys[at:]), Vals: slices.Clone(vals[at:])}
	return first, p.Keys[at], second
}

// middle tells how many items of a leaf, of these sizes, its first half gets. The halves' bytes are kept as items go over: summed anew at each step they would take a great leaf too long.
func middle(sizes []int) int {
	at := len(sizes) / 2
	first, second := sum(sizes[:at]), sum(sizes[at:])
	for crowded(len(sizes)-at, second) {
		first += sizes[at]
		second -= sizes[at]
		at++
	}
	for crowded(at, first) {
		at--
		first -= sizes[at]
	}
	return at
}

// crowded tells whether a leaf of so many items, with so many bytes, should give one away, and can.
func crowded(items, bytes int) bool {
	return items > 1 && len(head(true, items))+bytes > api.PageBytes
}

func sum(sizes []int) int {
	all := 0
	for _, n := range sizes {
		all += n
	}
	return all
}

func (p Page) splitBranch() (Page, string, Page) {
	at := len(p.Keys) / 2
	// A branch that is not good may have too few kids.
	kids := min(at+1, len(p.Kids))
	first := Page{Keys: slices.Clone(p.Keys[:at]), Kids: slices.Clone(p.Kids[:kids])}
	second := Page{Keys: slices.Clone(p.Keys[at+1:]), Kids: slices.Clone(p.Kids[kids:])}
	return first, p.Keys[at], second
}
