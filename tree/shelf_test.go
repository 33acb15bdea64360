package tree

import (
	"fmt"
	"slices"
	"strings"
	"testing"

	"publican/api"
	"publican/page"
)

// shelf keeps pages as they were when they were added. What it is handed it spoils, and what it hands out has spare room with marks: so that a call that writes where it should not, or shares memory, is found out.
type shelf struct {
	pages  map[uint64]page.Page
	order  []uint64            // the numbers, as they were given
	number func(at int) uint64 // which one the page at a place gets: 1, 2 and so on, if there is none
	given  []page.Page         // all that Page handed out, with
	was    []page.Page         // what it was then
	reads  int
	calls  int
	failAt int // the call that fails, from 1 on
	fail   api.Errno
}

func newShelf(pages ...page.Page) *shelf {
	s := &shelf{pages: map[uint64]page.Page{}}
	for _, p := range pages {
		s.Add(copied(p))
	}
	s.calls = 0
	return s
}

func (s *shelf) Page(n uint64) (page.Page, api.Errno) {
	s.reads++
	s.calls++
	if s.calls == s.failAt {
		return leafOf("never", "told"), s.fail
	}
	p, found := s.pages[n]
	if !found {
		return leafOf("never", "told"), api.ENONE
	}
	q := copied(p)
	q.Keys = append(q.Keys, "spare", "spare", "spare")[:len(p.Keys)]
	q.Vals = append(q.Vals, "spare", "spare", "spare")[:len(p.Vals)]
	q.Kids = append(q.Kids, 99, 99, 99)[:len(p.Kids)]
	s.given, s.was = append(s.given, q), append(s.was, p)
	return q, api.OK
}

func (s *shelf) Add(p page.Page) (uint64, api.Errno) {
	s.calls++
	if s.calls == s.failAt {
		return 7, s.fail
	}
	n := uint64(len(s.order) + 1)
	if s.number != nil {
		n = s.number(len(s.order))
	}
	s.pages[n] = copied(p)
	s.order = append(s.order, n)
	spoil(p)
	return n, api.OK
}

// wantUntouched looks whether what was handed out is as it was, with its marks.
func (s *shelf) wantUntouched(t *testing.T) {
	t.Helper()
	for i, p := range s.given {
		rest := slices.Concat(p.Keys[:len(p.Keys)+3][len(p.Keys):], p.Vals[:len(p.Vals)+3][len(p.Vals):])
		kids := p.Kids[:len(p.Kids)+3][len(p.Kids):]
		if !same(p, s.was[i]) || strings.Join(rest, "") != strings.Repeat("spare", 6) || !slices.Equal(kids, []uint64{99, 99, 99}) {
			t.Fatalf("R4: a page that was handed out is changed: %#v; want %#v", p, s.was[i])
		}
	}
	s.given, s.was = nil, nil
}

// spoil writes over all that a page's lists have room for.
func spoil(p page.Page) {
	for _, l := range [][]string{p.Keys, p.Vals} {
		l = l[:cap(l)]
		for i := range l {
			l[i] = "spoilt"
		}
	}
	kids := p.Kids[:cap(p.Kids)]
	for i := range kids {
		kids[i] = 77
	}
}

func copied(p page.Page) page.Page {
	return page.Page{Leaf: p.Leaf, Keys: slices.Clone(p.Keys), Vals: slices.Clone(p.Vals), Kids: slices.Clone(p.Kids)}
}

// same tells whether two pages are one: nil and an empty list are.
func same(p, q page.Page) bool {
	return p.Leaf == q.Leaf && slices.Equal(p.Keys, q.Keys) && slices.Equal(p.Vals, q.Vals) && slices.Equal(p.Kids, q.Kids)
}

// leafOf makes a leaf of keys and values, by turns.
func leafOf(l ...string) page.Page {
	p := page.Page{Leaf: true}
	for i := 0; i < len(l); i += 2 {
		p.Keys, p.Vals = append(p.Keys, l[i]), append(p.Vals, l[i+1])
	}
	return p
}

// branchOf makes a branch of keys (told with blanks between) and kids.
func branchOf(keys string, kids ...uint64) page.Page {
	return page.Page{Keys: strings.Fields(keys), Kids: kids}
}

// wantPages looks whether a shelf has just these pages behind those that it began with.
func wantPages(t *testing.T, told string, s *shelf, begun int, want ...page.Page) {
	t.Helper()
	var got []page.Page
	for _, n := range s.order[begun:] {
		got = append(got, s.pages[n])
	}
	if !slices.EqualFunc(got, want, same) {
		t.Errorf("%s: the new pages are %s; want %s", told, shown(got), shown(want))
	}
}

func shown(l []page.Page) string {
	var b strings.Builder
	for _, p := range l {
		fmt.Fprintf(&b, "{%v %q %q %v}", p.Leaf, p.Keys, p.Vals, p.Kids)
	}
	return b.String()
}

// wantItems looks whether a tree has just these items.
func wantItems(t *testing.T, told string, s *shelf, root uint64, l ...Item) {
	t.Helper()
	got, e := Range(s, root, "", "", 1<<40)
	if e != api.OK || !slices.Equal(got, l) {
		t.Fatalf("%s: the items of %d: %v, %d; want %v", told, root, got, e, l)
	}
}
