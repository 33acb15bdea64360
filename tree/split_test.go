package tree

import (
	"fmt"
	"math"
	"slices"
	"strings"
	"testing"

	"publican/api"
	"publican/page"
)

// filled makes a leaf of so many bytes: of items of 294 bytes (keys a, b, c), the last one's value shorter or longer.
func filled(t *testing.T, items, bytes int) page.Page {
	t.Helper()
	p := leafOf()
	for i := range items {
		p = p.Put(string(rune('a'+i)), strings.Repeat("v", 290))
	}
	last := items - 1
	p.Vals[last] = strings.Repeat("w", 290+bytes-page.Bytes(p))
	if page.Bytes(p) != bytes || !page.Good(p) {
		t.Fatalf("a leaf of %d bytes; want %d", page.Bytes(p), bytes)
	}
	return p
}

// TestLeafAtTheLimit puts in an item of three bytes and its value's: up to seven of these just fit.
func TestLeafAtTheLimit(t *testing.T) {
	p := filled(t, 3, 890)
	for n := range 20 {
		s := newShelf(p)
		val := strings.Repeat("x", n)
		root, e := Put(s, 1, "d", val)
		want := p.Put("d", val)
		if e != api.OK {
			t.Fatalf("P7.1: Put: %d", e)
		}
		if page.Bytes(want) <= api.PageBytes {
			wantPages(t, "P7.1: a leaf within the limit", s, 1, want)
		} else {
			first, key, second := want.Split()
			wantPages(t, "P7.1: a leaf past the limit", s, 1, first, second, branchOf(key, 2, 3))
		}
		if whole := n <= 7; whole != (root == 2) || !whole != (root == 4) {
			t.Errorf("P7.1: a leaf of %d bytes: the root is %d", page.Bytes(want), root)
		}
		s.wantUntouched(t)
	}
}

// A key that is there already may make its leaf too great, too.
func TestLongerValueSplits(t *testing.T) {
	p := filled(t, 3, api.PageBytes)
	s := newShelf(p)
	if root, e := Put(s, 1, "a", strings.Repeat("x", 290)); root != 2 || e != api.OK {
		t.Errorf("P7.1: a value as long: %d, %d; want 2", root, e)
	}
	if root, e := Put(s, 1, "a", strings.Repeat("x", 291)); root != 5 || e != api.OK {
		t.Errorf("P7.1: a longer value: %d, %d; want 5", root, e)
	}
	first, key, second := p.Put("a", strings.Repeat("x", 291)).Split()
	wantPages(t, "P7.1: a longer value", s, 1, p.Put("a", strings.Repeat("x", 290)), first, second, branchOf(key, 3, 4))
}

// A split leaf's key and second go into the branch above, at each place.
func TestSplitBelowABranch(t *testing.T) {
	great := func(c string) page.Page {
		p := leafOf()
		for i := range 3 {
			p = p.Put(fmt.Sprint(c, i), strings.Repeat("v", 290))
		}
		return p
	}
	for at, c := range []string{"a", "f", "m"} {
		s := newShelf(great("a"), great("f"), great("m"), branchOf("f0 m0", 1, 2, 3))
		root, e := Put(s, 4, c+"3", "w")
		val := strings.Repeat("v", 290)
		if root != 6 || e != api.OK {
			t.Errorf("P7.1: a Put that just fits: %d, %d", root, e)
		}
		root, e = Put(s, 4, c+"4", val)
		if root != 9 || e != api.OK {
			t.Errorf("P7.1: a Put that splits: %d, %d; want 9", root, e)
		}
		keys, kids := slices.Insert([]string{"f0", "m0"}, at, c+"2"), slices.Replace([]uint64{1, 2, 3}, at, at+1, 7, 8)
		leaf := great(c).Put(c+"3", "w")
		first, second := leafOf(c+"0", val, c+"1", val), leafOf(c+"2", val, c+"4", val)
		branch := branchOf("f0 m0", 1, 2, 3)
		branch.Kids[at] = 5
		wantPages(t, "P7.1: a split below a branch", s, 4, leaf, branch, first, second, page.Page{Keys: keys, Kids: kids})
		s.wantUntouched(t)
	}
}

// wide makes a branch of so many bytes, its keys with a text ahead, all but its last kid the page 1, its last the page last; and a key that lies in that kid.
func wide(t *testing.T, ahead string, bytes int, last uint64) (page.Page, string) {
	t.Helper()
	p := branchOf("", 1)
	for i := 0; ; i++ {
		key := fmt.Sprintf("%s%04d%s", ahead, i, strings.Repeat("k", 30))
		q := page.Page{Keys: append(slices.Clone(p.Keys), key), Kids: append(slices.Clone(p.Kids), 1)}
		if page.Bytes(q) > bytes-60 {
			break
		}
		p = q
	}
	// Two more keys make up for what is missing.
	for _, part := range []int{2, 1} {
		key := ahead + "z" + strings.Repeat("z", 2-part)
		p.Keys, p.Kids = append(p.Keys, key), append(p.Kids, last)
		p.Kids[len(p.Kids)-2] = 1
		missing := bytes - page.Bytes(p)
		if part == 2 {
			missing = (missing - 3) / 2
		}
		p.Keys[len(p.Keys)-1] += strings.Repeat("y", missing)
	}
	if page.Bytes(p) != bytes || !page.Good(p) {
		t.Fatalf("a branch of %d bytes; want %d", page.Bytes(p), bytes)
	}
	return p, ahead + "zzz"
}

// TestBranchAtTheLimit has a branch whose new kid's number takes as many bytes as the old one's, or more.
func TestBranchAtTheLimit(t *testing.T) {
	for _, c := range []struct {
		bytes  int
		number uint64 // the new leaf's
		split  bool
	}{
		{900, 5, false}, {899, 200, false}, {900, 200, true}, {898, 1 << 14, false}, {899, 1 << 14, true}, {900, 1 << 14, true}, {892, math.MaxUint64, true}, {891, math.MaxUint64, false},
	} {
		for _, drop := range []bool{false, true} {
			branch, key := wide(t, "m", c.bytes, 2)
			s := newShelf(leafOf("0", "1"), leafOf(key, "1", key+"z", "2"), branch)
			s.number = func(at int) uint64 { return []uint64{0, 0, 0, c.number, 1000, 1001, 1002}[at] }
			var leaf page.Page
			var e api.Errno
			if drop {
				leaf = leafOf(key+"z", "2")
				_, e = Drop(s, 3, key)
			} else {
				leaf = leafOf(key, "x", key+"z", "2")
				_, e = Put(s, 3, key, "x")
			}
			if e != api.OK {
				t.Fatalf("P7.1: %d", e)
			}
			branch.Kids[len(branch.Kids)-1] = c.number
			want := []page.Page{leaf, branch}
			if c.split {
				first, middle, second := branch.Split()
				want = []page.Page{leaf, first, second, branchOf(middle, 1000, 1001)}
			}
			wantPages(t, fmt.Sprintf("P7.1: a branch of %d bytes, new leaf %d, Drop %v", c.bytes, c.number, drop), s, 3, want...)
			s.wantUntouched(t)
		}
	}
}

// A split goes on from branch to branch, up to a new root.
func TestSplitsUpToTheRoot(t *testing.T) {
	low, key := wide(t, "n", 900, 2)
	high, _ := wide(t, "m", 900, 3)
	leaf := leafOf()
	for i := range 3 {
		leaf = leaf.Put(fmt.Sprint(key, i), strings.Repeat("v", 290))
	}
	for _, p := range []page.Page{leaf, low, high} {
		if page.Bytes(p) > api.PageBytes {
			t.Fatalf("a page of %d bytes", page.Bytes(p))
		}
	}
	s := newShelf(leafOf("0", "1"), leaf, low, high)
	val := strings.Repeat("v", 100)
	root, e := Put(s, 4, key+"9", val)
	if root != 11 || e != api.OK {
		t.Fatalf("P7.1: splits up to the root: %d, %d; want 11", root, e)
	}
	first, text, second := leaf.Put(key+"9", val).Split()
	want := []page.Page{first, second}
	for i, p := range []page.Page{low, high} {
		at := len(p.Kids) - 1
		p.Keys, p.Kids = append(p.Keys, text), append(p.Kids, uint64(2*i+6))
		p.Kids[at] = uint64(2*i + 5)
		first, text, second = p.Split()
		want = append(want, first, second)
	}
	wantPages(t, "P7.1: splits up to the root", s, 4, append(want, branchOf(text, 9, 10))...)
	for _, n := range s.order[4:] {
		if p := s.pages[n]; !page.Good(p) || page.Bytes(p) > api.PageBytes {
			t.Errorf("P7.1: the page %d, of %d bytes, may not be", n, page.Bytes(p))
		}
	}
	s.wantUntouched(t)
}
