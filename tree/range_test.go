package tree

import (
	"fmt"
	"math"
	"slices"
	"strings"
	"testing"

	"publican/api"
	"publican/page"
)

// wantRange looks at Range against a list of all items.
func wantRange(t *testing.T, s *shelf, root uint64, all []Item, from, to string, most int) {
	t.Helper()
	var want []Item
	for _, x := range all {
		if from <= x.Key && (to == "" || x.Key < to) && len(want) < most {
			want = append(want, x)
		}
	}
	got, e := Range(s, root, from, to, most)
	if !slices.Equal(got, want) || e != api.OK {
		t.Fatalf("P7.2: Range(%q, %q, %d): %v, %d; want %v", from, to, most, got, e, want)
	}
}

// beside are texts at, just below and just above each key.
func beside(all []Item) []string {
	l := []string{"", "\x00", "\xff\xff", strings.Repeat("\xff", 41)}
	for _, x := range all {
		last := len(x.Key) - 1
		l = append(l, x.Key, x.Key+"\x00", x.Key[:last], x.Key[:last]+string([]byte{x.Key[last] - 1})+"\xff")
	}
	return l
}

func TestRangeSmall(t *testing.T) {
	s := newShelf(leafOf("a", "1", "c", "2"), leafOf("f", "3", "fa", ""), leafOf("m", "4"), leafOf("p", "5", "pp", "6", "q", "7"), branchOf("f", 1, 2), branchOf("m p", 5, 3, 4))
	all := []Item{{"a", "1"}, {"c", "2"}, {"f", "3"}, {"fa", ""}, {"m", "4"}, {"p", "5"}, {"pp", "6"}, {"q", "7"}}
	texts := beside(all)
	for _, from := range texts {
		for _, to := range texts {
			for _, most := range []int{math.MinInt, -1, 0, 1, 2, 3, 7, 8, 9, math.MaxInt} {
				wantRange(t, s, 6, all, from, to, most)
			}
		}
	}
	wantPages(t, "P7.2: Range adds pages", s, 6)
	s.wantUntouched(t)
}

func TestRangeOfAGreatTree(t *testing.T) {
	w := newWorld(func(at int) uint64 { return uint64(at + 1) })
	for i := range 300 {
		w.put(t, fmt.Sprint(strings.Repeat("k", 30), i*7%300), strings.Repeat("v", i*11%200))
	}
	for i := range 100 {
		w.drop(t, fmt.Sprint(strings.Repeat("k", 30), i))
	}
	all := list(w.items)
	texts := beside(all)
	for i, from := range texts {
		for k := 0; k < len(texts); k += 37 {
			to := texts[(i+k)%len(texts)]
			for _, most := range []int{0, 1, 5, 1000} {
				wantRange(t, w.s, w.root, all, from, to, most)
			}
		}
	}
}

// TestRangeReads looks that no page is read that can have nothing of the range, nor one behind the last item wanted.
func TestRangeReads(t *testing.T) {
	s := newShelf(leafOf("a", "1", "c", "2"), leafOf("f", "3", "g", "4"), leafOf("m", "5"), leafOf("p", "6"), branchOf("f m p", 1, 2, 3, 4))
	for _, c := range []struct {
		from, to string
		most     int
		reads    int
	}{
		{"", "", 9, 5}, {"", "", 6, 5}, {"", "", 5, 4}, {"", "", 4, 3}, {"", "", 3, 3}, {"", "", 2, 2}, {"", "", 1, 2}, {"", "", 0, 0}, {"", "", -1, 0},
		{"f", "", 9, 4}, {"e", "", 9, 5}, {"p", "", 9, 2}, {"z", "", 9, 2}, {"", "f", 9, 2}, {"", "f\x00", 9, 3}, {"", "m", 9, 3}, {"f", "m", 9, 2}, {"g", "h", 9, 2},
		{"m", "m", 9, 0}, {"n", "m", 9, 0}, {"b", "a", 9, 0}, {"m", "p", 9, 2}, {"m", "p", 1, 2}, {"l", "p", 1, 3},
	} {
		s.reads = 0
		if _, e := Range(s, 5, c.from, c.to, c.most); e != api.OK || s.reads != c.reads {
			t.Errorf("P7.2: Range(%q, %q, %d): %d pages read, %d; want %d", c.from, c.to, c.most, s.reads, e, c.reads)
		}
	}
	for _, key := range []string{"a", "b", "f", "z"} {
		s.reads = 0
		if Find(s, 5, key); s.reads != 2 {
			t.Errorf("P7.1: Find(%q): %d pages read; want 2", key, s.reads)
		}
	}
}

func TestAnswersAreNewMemory(t *testing.T) {
	s := newShelf(leafOf("a", "1", "c", "2"), leafOf("f", "3"), branchOf("f", 1, 2))
	one, _ := Range(s, 3, "", "", 9)
	two, _ := Range(s, 3, "", "", 9)
	for i := range one[:cap(one)] {
		one[:cap(one)][i] = Item{"spoilt", "spoilt"}
	}
	if !slices.Equal(two, []Item{{"a", "1"}, {"c", "2"}, {"f", "3"}}) {
		t.Errorf("R4: what Range answers shares its memory: %v", two)
	}
	here, _ := Pages(s, 3)
	there, _ := Pages(s, 3)
	clear(here[:cap(here)])
	if fmt.Sprint(there) != "[3 1 2]" {
		t.Errorf("R4: what Pages answers shares its memory: %v", there)
	}
	s.wantUntouched(t)
	if !same(s.pages[3], page.Page{Keys: []string{"f"}, Kids: []uint64{1, 2}}) {
		t.Errorf("R4: the shelf's pages are changed")
	}
}
