package page

import (
	"fmt"
	"math/rand"
	"slices"
	"strings"
	"testing"

	"publican/api"
)

// splitAt tells where a leaf of at least two keys is split, word by word as the chapter does. Where a half stays above the limit it takes the steps without looking, so that a great leaf takes not too long.
func splitAt(keys, vals []string) int {
	above := func(from, to int) bool {
		// This many items are above the limit, whatever they are.
		if to-from > api.PageBytes {
			return true
		}
		return len(bytesOf(Page{Leaf: true, Keys: keys[from:to], Vals: vals[from:to]})) > api.PageBytes
	}
	n := len(keys)
	i := n / 2
	for above(i, n) && n-i > 1 {
		i++
	}
	for above(0, i) && i > 1 {
		i--
	}
	return i
}

// wantSplit looks at Split of a good page.
func wantSplit(t *testing.T, p Page) {
	t.Helper()
	was := p.copied()
	first, key, second := p.Split()
	n := len(p.Keys)
	var wantFirst, wantSecond Page
	wantKey := ""
	switch {
	case p.Leaf && n < 2 || !p.Leaf && n < 3:
		wantFirst = p
	case p.Leaf:
		i := splitAt(p.Keys, p.Vals)
		wantFirst, wantSecond = Page{Leaf: true, Keys: p.Keys[:i], Vals: p.Vals[:i]}, Page{Leaf: true, Keys: p.Keys[i:], Vals: p.Vals[i:]}
		wantKey = wantSecond.Keys[0]
	default:
		i := n / 2
		wantFirst, wantSecond = Page{Keys: p.Keys[:i], Kids: p.Kids[:i+1]}, Page{Keys: p.Keys[i+1:], Kids: p.Kids[i+1:]}
		wantKey = p.Keys[i]
	}
	if !same(first, wantFirst) || key != wantKey || !same(second, wantSecond) {
		t.Fatalf("P6.2: Split of %#v: %#v, %#v, %#v; want %#v, %#v, %#v", p, first, key, second, wantFirst, wantKey, wantSecond)
	}
	if !same(p, was) {
		t.Fatalf("P6.2: Split changes p: %#v; want %#v", p, was)
	}
	if !Good(first) || wantKey != "" && !Good(second) {
		t.Fatalf("P6.2: Split of %#v: %#v and %#v are not both good", p, first, second)
	}
}

// leafSized makes a leaf of items that take so many bytes each (3 to 443).
func leafSized(sizes ...int) Page {
	p := leafOf()
	for i, size := range sizes {
		key := fmt.Sprintf("%c", 'a'+i)
		val := size - 3
		if val > 127 {
			// The value's length takes two bytes then.
			val--
		}
		if val > api.MaxVal {
			key += strings.Repeat("k", val-api.MaxVal)
			val = api.MaxVal
		}
		p.Keys, p.Vals = append(p.Keys, key), append(p.Vals, strings.Repeat("v", val))
	}
	return p
}

func TestSplitSmall(t *testing.T) {
	for n := range 20 {
		leaf, branch := leafOf(), branchOf()
		for i := range n {
			key := fmt.Sprintf("%02d", i)
			leaf.Keys, leaf.Vals = append(leaf.Keys, key), append(leaf.Vals, "v"+key)
			branch.Keys, branch.Kids = append(branch.Keys, key), append(branch.Kids, uint64(i+2))
		}
		wantSplit(t, leaf)
		wantSplit(t, branch)
	}
}

func TestSplitExamples(t *testing.T) {
	first, key, second := leafOf("a", "1", "b", "2", "c", "3").Split()
	if !same(first, leafOf("a", "1")) || key != "b" || !same(second, leafOf("b", "2", "c", "3")) {
		t.Errorf("P6.2: Split of a leaf of three: %#v, %#v, %#v", first, key, second)
	}
	first, key, second = branchOf("a", "b", "c").Split()
	if !same(first, Page{Keys: []string{"a"}, Kids: []uint64{1, 2}}) || key != "b" || !same(second, Page{Keys: []string{"c"}, Kids: []uint64{3, 4}}) {
		t.Errorf("P6.2: Split of a branch of three: %#v, %#v, %#v", first, key, second)
	}
	for _, p := range []Page{leafOf(), leafOf("a", "1"), branchOf(), branchOf("a"), branchOf("a", "b")} {
		if first, key, second := p.Split(); !same(first, p) || key != "" || !same(second, Page{}) {
			t.Errorf("P6.2: Split of %#v: %#v, %#v, %#v; want it, nothing, the zero Page", p, first, key, second)
		}
	}
}

func TestSplitByBytes(t *testing.T) {
	for _, c := range []struct {
		sizes []int
		want  int
	}{
		{[]int{443, 443}, 1},
		{[]int{443, 443, 443}, 1},
		{[]int{3, 443, 443, 443}, 2},
		{[]int{3, 3, 443, 443, 443}, 3},              // the second's Bytes are above the limit: one more
		{[]int{3, 3, 443, 443, 12}, 2},               // just at it: none
		{[]int{3, 3, 443, 443, 13}, 3},               // one past it
		{[]int{443, 443, 12, 3, 3, 3}, 3},            // the first's, just at it
		{[]int{443, 443, 13, 3, 3, 3}, 2},            // one past it: one less
		{[]int{443, 443, 443, 443, 443, 443}, 2},     // to 4, then back to 2: the second is above it at the end
		{[]int{443, 443, 443, 443}, 2},               // both are at 888
		{[]int{443, 443, 443, 3, 443, 443, 443}, 2},  // to 5, then back to 2
		{[]int{3, 3, 3, 3, 443, 443, 443, 443}, 6},   // two more, and the first is just at it
		{[]int{3, 3, 3, 4, 443, 443, 443, 443}, 5},   // two more, and one less again
		{[]int{3, 3, 3, 3, 3, 443, 443, 443, 12}, 6}, // two of 443 and 12 stay, at the limit
	} {
		p := leafSized(c.sizes...)
		for i, size := range c.sizes {
			if got := Bytes(Page{Leaf: true, Keys: p.Keys[i : i+1], Vals: p.Vals[i : i+1]}) - 2; got != size {
				t.Fatalf("an item of %d bytes; want %d", got, size)
			}
		}
		wantSplit(t, p)
		if first, _, second := p.Split(); len(first.Keys) != c.want {
			t.Errorf("P6.2: Split of a leaf of %v: %d and %d keys; want %d in the first", c.sizes, len(first.Keys), len(second.Keys), c.want)
		}
	}
}

// TestSplitManyItems has leaves of so many items that their count takes two bytes.
func TestSplitManyItems(t *testing.T) {
	for n := 120; n < 420; n++ {
		for _, last := range []int{3, 4, 90, 400} {
			p := leafOf()
			for i := range n {
				p.Keys, p.Vals = append(p.Keys, string([]byte{byte(i / 200), byte(i % 200)})), append(p.Vals, "")
			}
			p.Vals[n-1] = strings.Repeat("v", last)
			wantSplit(t, p)
			p.Vals[0], p.Vals[n-1] = p.Vals[n-1], ""
			wantSplit(t, p)
		}
	}
}

func TestSplitRandom(t *testing.T) {
	for _, p := range good() {
		wantSplit(t, p)
	}
	r := rand.New(rand.NewSource(7))
	for range 3000 {
		wantSplit(t, random(r, r.Intn(2) == 0, 14))
	}
	for range 3000 {
		var sizes []int
		for range 2 + r.Intn(12) {
			sizes = append(sizes, []int{3, 3 + r.Intn(128), 132 + r.Intn(312), 443, 443 - r.Intn(10)}[r.Intn(5)])
		}
		wantSplit(t, leafSized(sizes...))
	}
}

// TestSplitOfWhatGrew splits leaves that were at the limit till the last Put: the two are within it again.
func TestSplitOfWhatGrew(t *testing.T) {
	r := rand.New(rand.NewSource(8))
	for range 300 {
		p := leafOf()
		for Bytes(p) <= api.PageBytes {
			p = p.Put(randomText(r, 1, api.MaxKey), randomText(r, 0, api.MaxVal))
		}
		first, key, second := p.Split()
		if Bytes(first) > api.PageBytes || Bytes(second) > api.PageBytes {
			t.Fatalf("P6.2: Split of a leaf of %d bytes: %d and %d", Bytes(p), Bytes(first), Bytes(second))
		}
		if !slices.Equal(append(first.Keys, second.Keys...), p.Keys) || key != second.Keys[0] {
			t.Fatalf("P6.2: Split loses keys: %#v", p)
		}
	}
}

// TestSplitOfGreatItems has items that a good leaf has not: each half keeps one, however great.
func TestSplitOfGreatItems(t *testing.T) {
	val := strings.Repeat("v", api.PageBytes)
	for _, c := range []struct {
		p    Page
		want int
	}{
		{leafOf("a", val, "b", val), 1},
		{leafOf("a", "", "b", val), 1},
		{leafOf("a", val, "b", ""), 1},
		{leafOf("a", "", "b", val, "c", val), 1}, // to 2, then back
		{leafOf("a", val, "b", val, "c", val, "d", val), 1},
		{leafOf("a", "", "b", "", "c", "", "d", val), 3},
	} {
		first, key, second := c.p.Split()
		if len(first.Keys) != c.want || !slices.Equal(append(first.Keys, second.Keys...), c.p.Keys) || key != c.p.Keys[c.want] {
			t.Errorf("P6.2: Split of great items: %q, %q, %q; want %d in the first", first.Keys, key, second.Keys, c.want)
		}
	}
}
