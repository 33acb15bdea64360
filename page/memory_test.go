package page

import (
	"math/rand"
	"slices"
	"testing"
)

// roomy makes the same page with lists that have spare room, filled with marks.
func roomy(p Page) Page {
	q := p.copied()
	q.Keys = append(q.Keys, "spare", "spare", "spare")[:len(p.Keys)]
	q.Vals = append(q.Vals, "spare", "spare", "spare")[:len(p.Vals)]
	q.Kids = append(q.Kids, 99, 99, 99)[:len(p.Kids)]
	return q
}

// spared tells whether a roomy page has its marks still.
func spared(p Page) bool {
	rest := slices.Concat(p.Keys[:len(p.Keys)+3][len(p.Keys):], p.Vals[:len(p.Vals)+3][len(p.Vals):])
	for _, s := range rest {
		if s != "spare" {
			return false
		}
	}
	return slices.Equal(p.Kids[:len(p.Kids)+3][len(p.Kids):], []uint64{99, 99, 99})
}

// spoil writes over all that a page's lists have room for.
func spoil(p Page) {
	for _, l := range [][]string{p.Keys, p.Vals} {
		l = l[:cap(l)]
		for i := range l {
			l[i] = "spoilt"
		}
	}
	kids := p.Kids[:cap(p.Kids)]
	for i := range kids {
		kids[i] = 77
	}
}

// answers are the pages that the calls with a key answer.
func answers(p Page, key string) []Page {
	first, _, second := p.Split()
	return []Page{p.Put(key, "v"), p.Drop(key), first, second}
}

// keysFor are keys ahead of, in, between and behind those of a page.
func keysFor(p Page) []string {
	return append([]string{"", "b", "m", "\xff\xff\xff"}, p.Keys...)
}

func TestAnswersAreNewMemory(t *testing.T) {
	pages := good()
	for _, p := range wrong() {
		pages = append(pages, p)
	}
	for _, was := range pages {
		if len(was.Keys) > 20 {
			continue
		}
		for _, key := range keysFor(was) {
			p := roomy(was)
			want := answers(was, key)
			for i := range want {
				got := answers(p, key)
				if !same(p, was) || !spared(p) {
					t.Fatalf("R4: a call writes into p: %#v; want %#v", p, was)
				}
				spoil(got[i])
				if !same(p, was) || !spared(p) {
					t.Fatalf("R4: answer %d shares its memory with p: %#v; want %#v", i, p, was)
				}
				for k := range got {
					if k != i && !same(got[k], want[k]) {
						t.Fatalf("R4: answers %d and %d share memory: %#v; want %#v", i, k, got[k], want[k])
					}
				}
			}
		}
	}
}

// TestListsOfOneAnswer looks that writing over one list's room leaves the other lists of the same page.
func TestListsOfOneAnswer(t *testing.T) {
	for _, p := range good() {
		if len(p.Keys) > 20 {
			continue
		}
		for _, key := range keysFor(p) {
			for i, want := range answers(p, key) {
				got := answers(p, key)[i]
				spoil(Page{Keys: got.Keys})
				if !slices.Equal(got.Vals, want.Vals) || !slices.Equal(got.Kids, want.Kids) {
					t.Fatalf("R4: answer %d's keys share memory with its other lists", i)
				}
			}
		}
	}
}

// TestOddPages hands in pages that may not be: nothing is promised of what is answered, but that it is.
func TestOddPages(t *testing.T) {
	r := rand.New(rand.NewSource(9))
	pages := good()
	for _, p := range wrong() {
		pages = append(pages, p)
	}
	for range 5000 {
		p := Page{Leaf: r.Intn(2) == 0}
		for range r.Intn(7) {
			p.Keys = append(p.Keys, randomText(r, 0, 900))
		}
		for range r.Intn(7) {
			p.Vals = append(p.Vals, randomText(r, 0, 900))
		}
		for range r.Intn(7) {
			p.Kids = append(p.Kids, uint64(r.Intn(3)))
		}
		pages = append(pages, p)
	}
	for _, p := range pages {
		was := p.copied()
		for _, key := range keysFor(p) {
			p.Find(key)
			p.Kid(key)
			answers(p, key)
		}
		if b := Encode(p); len(b) != Bytes(p) {
			t.Fatalf("P6.1: Bytes of %#v: %d; want %d", p, Bytes(p), len(b))
		}
		wantForm(t, Encode(p))
		if !same(p, was) {
			t.Fatalf("R4: a call changes a page that may not be: %#v; want %#v", p, was)
		}
	}
}

func TestZeroPage(t *testing.T) {
	var p Page
	if at, found := p.Find("a"); at != 0 || found || p.Kid("a") != 0 {
		t.Errorf("R1: of the zero Page Find answers %d, %v, and Kid %d; want 0, false, 0", at, found, p.Kid("a"))
	}
	for i, q := range answers(p, "a") {
		if !same(q, Page{}) {
			t.Errorf("R1: answer %d of the zero Page: %#v", i, q)
		}
	}
}
