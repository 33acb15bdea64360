package tree

import (
	"fmt"
	"maps"
	"math"
	"math/rand"
	"slices"
	"strings"
	"testing"

	"publican/api"
	"publican/page"
)

// model does the changes word by word as the chapter does, from page to page, on pages of its own.
type model struct {
	pages  map[uint64]page.Page
	made   int
	number func(at int) uint64
}

func (m *model) add(p page.Page) uint64 {
	n := m.number(m.made)
	m.made++
	m.pages[n] = copied(p)
	return n
}

// settled adds a page, or the two that it is split into.
func (m *model) settled(p page.Page) (kids []uint64, key string) {
	if page.Bytes(p) <= api.PageBytes {
		return []uint64{m.add(p)}, ""
	}
	first, key, second := p.Split()
	one := m.add(first)
	return []uint64{one, m.add(second)}, key
}

func (m *model) rooted(kids []uint64, key string) uint64 {
	switch len(kids) {
	case 0:
		return 0
	case 1:
		return kids[0]
	}
	return m.add(page.Page{Keys: []string{key}, Kids: kids})
}

func (m *model) put(root uint64, key, val string) uint64 {
	if root == 0 {
		return m.add(leafOf(key, val))
	}
	return m.rooted(m.putInto(root, key, val))
}

func (m *model) putInto(n uint64, key, val string) ([]uint64, string) {
	p := m.pages[n]
	if p.Leaf {
		return m.settled(p.Put(key, val))
	}
	at := p.Kid(key)
	kids, text := m.putInto(p.Kids[at], key, val)
	return m.settled(replaced(p, at, kids, text))
}

// replaced makes a branch with one or two kids in a kid's place.
func replaced(p page.Page, at int, kids []uint64, text string) page.Page {
	var q page.Page
	for i, kid := range p.Kids {
		if i > 0 {
			q.Keys = append(q.Keys, p.Keys[i-1])
		}
		switch {
		case i != at:
			q.Kids = append(q.Kids, kid)
		case len(kids) == 1:
			q.Kids = append(q.Kids, kids[0])
		default:
			q.Kids = append(q.Kids, kids[0], kids[1])
			q.Keys = append(q.Keys, text)
		}
	}
	return q
}

func (m *model) drop(root uint64, key string) uint64 {
	return m.rooted(m.dropFrom(root, key))
}

func (m *model) dropFrom(n uint64, key string) ([]uint64, string) {
	p := m.pages[n]
	if p.Leaf {
		if len(p.Keys) == 1 {
			return nil, ""
		}
		return m.settled(p.Drop(key))
	}
	at := p.Kid(key)
	kids, text := m.dropFrom(p.Kids[at], key)
	if len(kids) > 0 {
		return m.settled(replaced(p, at, kids, text))
	}
	var q page.Page
	for i, kid := range p.Kids {
		if i != at {
			q.Kids = append(q.Kids, kid)
		}
	}
	for i, k := range p.Keys {
		if i != at-1 && (at > 0 || i > 0) {
			q.Keys = append(q.Keys, k)
		}
	}
	if len(q.Kids) == 1 {
		return q.Kids, ""
	}
	return m.settled(q)
}

// world is a tree on a shelf, with a model and a map beside it.
type world struct {
	s     *shelf
	m     *model
	root  uint64
	items map[string]string
	seen  int // pages that were held against the model's
}

func newWorld(number func(at int) uint64) *world {
	s := newShelf()
	s.number = number
	return &world{s: s, m: &model{pages: map[uint64]page.Page{}, number: number}, items: map[string]string{}}
}

func (w *world) put(t *testing.T, key, val string) {
	t.Helper()
	root, e := Put(w.s, w.root, key, val)
	want := w.m.put(w.root, key, val)
	if root != want || e != api.OK {
		t.Fatalf("P7.1: Put(%q): %d, %d; want %d", key, root, e, want)
	}
	w.root, w.items[key] = root, val
	w.wantSamePages(t)
}

func (w *world) drop(t *testing.T, key string) {
	t.Helper()
	root, e := Drop(w.s, w.root, key)
	if _, found := w.items[key]; !found {
		if root != 0 || e != api.ENONE {
			t.Fatalf("P7.1: Drop(%q): %d, %d; want error 5", key, root, e)
		}
		w.wantSamePages(t)
		return
	}
	want := w.m.drop(w.root, key)
	if root != want || e != api.OK {
		t.Fatalf("P7.1: Drop(%q): %d, %d; want %d", key, root, e, want)
	}
	w.root = root
	delete(w.items, key)
	w.wantSamePages(t)
}

// wantSamePages looks whether the shelf has just the model's pages.
func (w *world) wantSamePages(t *testing.T) {
	t.Helper()
	if len(w.s.order) != w.m.made {
		t.Fatalf("P7.1: %d pages were added; want %d", len(w.s.order), w.m.made)
	}
	for ; w.seen < w.m.made; w.seen++ {
		n := w.s.order[w.seen]
		if !same(w.s.pages[n], w.m.pages[n]) {
			t.Fatalf("P7.1: the page %d: %#v; want %#v", n, w.s.pages[n], w.m.pages[n])
		}
	}
	w.s.wantUntouched(t)
}

// list tells a map's items in their order.
func list(items map[string]string) []Item {
	var l []Item
	for _, key := range slices.Sorted(maps.Keys(items)) {
		l = append(l, Item{key, items[key]})
	}
	return l
}

// wantMap looks at all that is told of the tree.
func (w *world) wantMap(t *testing.T) {
	t.Helper()
	wantItems(t, "P7.3: behind a change", w.s, w.root, list(w.items)...)
	for key, want := range w.items {
		if val, e := Find(w.s, w.root, key); val != want || e != api.OK {
			t.Fatalf("P7.1: Find(%q): %q, %d", key, val, e)
		}
		for _, other := range []string{key + "\x00", key[:len(key)-1], key + "~"} {
			if _, found := w.items[other]; found {
				continue
			}
			if val, e := Find(w.s, w.root, other); val != "" || e != api.ENONE {
				t.Fatalf("P7.1: Find(%q): %q, %d; want error 5", other, val, e)
			}
		}
	}
	l, e := Pages(w.s, w.root)
	pages, deep := w.told(w.root)
	if !slices.Equal(l, pages) || e != api.OK {
		t.Fatalf("P7.2: Pages: %v, %d; want %v", l, e, pages)
	}
	if n, e := Deep(w.s, w.root); n != deep || e != api.OK {
		t.Fatalf("P7.2: Deep: %d, %d; want %d", n, e, deep)
	}
	for _, n := range l {
		p := w.s.pages[n]
		if !page.Good(p) || page.Bytes(p) > api.PageBytes || p.Leaf && len(p.Keys) == 0 || !p.Leaf && len(p.Kids) < 2 {
			t.Fatalf("P7.1: the page %d may not be: %#v", n, p)
		}
	}
	w.s.wantUntouched(t)
}

func (w *world) told(n uint64) ([]uint64, int) {
	if n == 0 {
		return nil, 0
	}
	l, deep := []uint64{n}, 0
	for _, kid := range w.m.pages[n].Kids {
		below, d := w.told(kid)
		l, deep = append(l, below...), max(deep, d)
	}
	return l, deep + 1
}

// numberings are ways in which a shelf may number its pages.
func numberings() map[string]func(at int) uint64 {
	return map[string]func(at int) uint64{
		"one by one":       func(at int) uint64 { return uint64(at + 1) },
		"falling":          func(at int) uint64 { return math.MaxUint64 - uint64(at) },
		"from 100 on":      func(at int) uint64 { return uint64(at + 100) },
		"more and more":    func(at int) uint64 { return uint64(at+1) * uint64(at+1) },
		"of all lengths":   func(at int) uint64 { return uint64(at+1) << (at * 7 % 50) },
		"from the 14 bits": func(at int) uint64 { return uint64(at + 16000) },
	}
}

// TestAgainstModel does random changes: each page that is made is held against the model's.
func TestAgainstModel(t *testing.T) {
	for told, number := range numberings() {
		for seed := range int64(4) {
			r := rand.New(rand.NewSource(seed))
			w := newWorld(distinct(number))
			elder, shown := []uint64{0}, [][]Item{nil}
			names := 40 + 300*int(seed)
			for step := range 1500 {
				// Some time more is put in than dropped, then the other way round.
				growing := step/400%2 == 0
				if key := randomKey(r, names, seed); (r.Intn(4) > 0) == growing {
					w.put(t, key, strings.Repeat("v", randomLength(r)))
				} else {
					w.drop(t, key)
				}
				if step%100 == 0 {
					w.wantMap(t)
					elder, shown = append(elder, w.root), append(shown, list(w.items))
				}
			}
			for _, key := range slices.Sorted(maps.Keys(w.items)) {
				w.drop(t, key)
			}
			if w.root != 0 {
				t.Errorf("P7.1: %s: all is dropped, and the root is %d", told, w.root)
			}
			for i, root := range elder {
				wantItems(t, "P7.3: the one ahead", w.s, root, shown[i]...)
			}
		}
	}
}

// distinct makes numbers out of a row in which some are twice, or 0.
func distinct(number func(at int) uint64) func(at int) uint64 {
	taken := map[uint64]bool{0: true}
	var row []uint64
	return func(at int) uint64 {
		for len(row) <= at {
			n := number(len(row))
			for taken[n] {
				n++
			}
			taken[n] = true
			row = append(row, n)
		}
		return row[at]
	}
}

func randomKey(r *rand.Rand, names int, seed int64) string {
	n := r.Intn(names)
	if seed%2 == 0 {
		return fmt.Sprint(n)
	}
	return fmt.Sprint(strings.Repeat(string(rune('a'+n%3)), n%37), n)
}

func randomLength(r *rand.Rand) int {
	return []int{0, r.Intn(20), r.Intn(130), r.Intn(401), 400}[r.Intn(5)]
}

// TestRows puts in and takes out in rows: rising, falling, from the middle.
func TestRows(t *testing.T) {
	const many = 400
	rows := map[string]func(i int) int{
		"rising":   func(i int) int { return i },
		"falling":  func(i int) int { return many - 1 - i },
		"by turns": func(i int) int { return i%2*(many-1-i/2) + (1-i%2)*(i/2) },
		"spread":   func(i int) int { return i * 149 % many },
	}
	for in, put := range rows {
		for out, drop := range rows {
			w := newWorld(func(at int) uint64 { return uint64(at + 1) })
			key := func(n int) string { return fmt.Sprintf("%s%05d", strings.Repeat("k", 35), n) }
			for i := range many {
				w.put(t, key(put(i)), strings.Repeat("v", i*i%401))
			}
			if len(w.items) != many {
				t.Fatalf("%s: %d keys", in, len(w.items))
			}
			w.wantMap(t)
			if deep, _ := Deep(w.s, w.root); deep < 3 {
				t.Fatalf("%s: %d deep: too shallow a test", in, deep)
			}
			for i := range many {
				w.drop(t, key(drop(i)))
				if i%50 == 0 {
					w.wantMap(t)
				}
			}
			if w.root != 0 {
				t.Errorf("P7.1: put in %s, dropped %s: the root is %d", in, out, w.root)
			}
		}
	}
}
