package tree

import (
	"fmt"
	"math"
	"slices"
	"strings"
	"testing"

	"publican/api"
	"publican/page"
)

// outcome is what a call answers, told, and its error.
type outcome struct {
	told string
	e    api.Errno
}

// calls are all calls on a tree, with a key that they go down with.
func calls(s Shelf, root uint64, key string) map[string]func() outcome {
	return map[string]func() outcome{
		"Find":  func() outcome { val, e := Find(s, root, key); return outcome{fmt.Sprintf("%q", val), e} },
		"Put":   func() outcome { n, e := Put(s, root, key, "x"); return outcome{fmt.Sprint(n), e} },
		"Drop":  func() outcome { n, e := Drop(s, root, key); return outcome{fmt.Sprint(n), e} },
		"Range": func() outcome { l, e := Range(s, root, "", "", 1<<40); return outcome{fmt.Sprint(len(l)), e} },
		"Pages": func() outcome { l, e := Pages(s, root); return outcome{fmt.Sprint(len(l)), e} },
		"Deep":  func() outcome { n, e := Deep(s, root); return outcome{fmt.Sprint(n), e} },
	}
}

// wantError looks whether a call answers an error and nothing else.
func wantError(t *testing.T, told string, got outcome, want api.Errno) {
	t.Helper()
	if got.e != want || got.told != "0" && got.told != `""` {
		t.Errorf("%s: %s, %d; want error %d", told, got.told, got.e, want)
	}
}

// chain makes a tree so deep: a leaf, and branches of two kids above it, the deep one the first, the last, or alone.
func chain(deep, side int) (*shelf, uint64) {
	s := newShelf(leafOf("m", "1", "n", "2"), leafOf("a", "3"), leafOf("z", "4"))
	below := uint64(1)
	for range deep - 1 {
		branch := []page.Page{branchOf("z", below, 3), branchOf("m", 2, below), branchOf("", below)}[side]
		below, _ = s.Add(branch)
	}
	s.calls = 0
	return s, below
}

func TestDeepTrees(t *testing.T) {
	for side := range 3 {
		for deep := 1; deep <= 24; deep++ {
			for name := range calls(nil, 0, "") {
				s, root := chain(deep, side)
				begun := len(s.order)
				got := calls(s, root, "m")[name]()
				told := fmt.Sprintf("P7.2: %s of a tree %d deep", name, deep)
				if deep > 20 {
					wantError(t, told, got, api.EFORM)
					if s.reads > 50 || len(s.order) != begun {
						t.Errorf("%s: %d pages read, %d added", told, s.reads, len(s.order)-begun)
					}
				} else if got.e != api.OK {
					t.Errorf("%s: %d", told, got.e)
				}
				if name == "Deep" && deep <= 20 && got.told != fmt.Sprint(deep) {
					t.Errorf("%s: %s", told, got.told)
				}
			}
		}
	}
}

// What lies beside the deep way is found still: the call reads no more than its own way.
func TestBesideTheDeepWay(t *testing.T) {
	s, root := chain(25, 0)
	if val, e := Find(s, root, "z"); val != "4" || e != api.OK {
		t.Errorf("P7.1: Find beside a way too deep: %q, %d", val, e)
	}
	if l, e := Range(s, root, "z", "", 9); fmt.Sprint(l) != "[{z 4}]" || e != api.OK {
		t.Errorf("P7.2: Range beside a way too deep: %v, %d", l, e)
	}
}

func TestRings(t *testing.T) {
	for _, ring := range [][]page.Page{
		{branchOf("m", 1, 1)}, {branchOf("", 1)}, {branchOf("m", 2, 2), branchOf("", 1)}, {branchOf("a b c d e f g", 1, 1, 1, 1, 1, 1, 1, 1)},
	} {
		for name := range calls(nil, 0, "") {
			s := newShelf(ring...)
			wantError(t, "P7.2: "+name+" of a ring", calls(s, 1, "x")[name](), api.EFORM)
			if len(s.order) != len(ring) || s.reads > 4096 {
				t.Errorf("P7.2: %s of a ring adds pages, or reads %d", name, s.reads)
			}
		}
	}
}

// flat makes a tree of so many pages: a root, its kids, and leaves of one key each below these.
func flat(pages int) (*shelf, uint64) {
	s := newShelf()
	pages--
	var top page.Page
	for pages > 0 {
		pages--
		var branch page.Page
		for range min(pages, 63) {
			pages--
			key := fmt.Sprintf("%05d", len(s.order))
			n, _ := s.Add(leafOf(key, "v"))
			if len(branch.Kids) > 0 {
				branch.Keys = append(branch.Keys, key)
			} else if len(top.Kids) > 0 {
				top.Keys = append(top.Keys, key)
			}
			branch.Kids = append(branch.Kids, n)
		}
		if len(branch.Kids) == 0 {
			n, _ := s.Add(leafOf("z", "v"))
			top.Keys, top.Kids = append(top.Keys, "z"), append(top.Kids, n)
			continue
		}
		n, _ := s.Add(branch)
		top.Kids = append(top.Kids, n)
	}
	n, _ := s.Add(top)
	s.reads, s.calls = 0, 0
	return s, n
}

func TestManyPages(t *testing.T) {
	for _, pages := range []int{4095, 4096, 4097, 5000} {
		for _, name := range []string{"Pages", "Deep", "Range"} {
			s, root := flat(pages)
			if len(s.order) != pages {
				t.Fatalf("a tree of %d pages; want %d", len(s.order), pages)
			}
			got := calls(s, root, "")[name]()
			told := fmt.Sprintf("P7.2: %s of %d pages", name, pages)
			if s.reads > 4096 {
				t.Errorf("%s: %d are read", told, s.reads)
			}
			if pages > 4096 {
				wantError(t, told, got, api.EFORM)
			} else if got.e != api.OK || name == "Pages" && got.told != fmt.Sprint(pages) || name == "Deep" && got.told != "3" {
				t.Errorf("%s: %s, %d", told, got.told, got.e)
			}
		}
	}
	// Calls that read fewer pages may be made of a tree of any size.
	s, root := flat(20000)
	if val, e := Find(s, root, "00000"); val != "v" || e != api.OK {
		t.Errorf("P7.1: Find in a great tree: %q, %d", val, e)
	}
	if l, e := Range(s, root, "", "", 4000); len(l) != 4000 || e != api.OK {
		t.Errorf("P7.2: Range of a great tree: %d items, %d", len(l), e)
	}
	if l, e := Range(s, root, "01000", "01010", 4000); len(l) == 0 || e != api.OK {
		t.Errorf("P7.2: Range of a great tree: %d items, %d", len(l), e)
	}
	if l, e := Range(s, root, "", "", 4090); len(l) != 0 || e != api.EFORM {
		t.Errorf("P7.2: Range of a great tree: %d items, %d; want error 3", len(l), e)
	}
	more, e := Put(s, root, "00000", "w")
	if val, f := Find(s, more, "00000"); val != "w" || e != api.OK || f != api.OK {
		t.Errorf("P7.1: Put into a great tree: %q, %d, %d", val, e, f)
	}
	less, e := Drop(s, more, "00001")
	if val, f := Find(s, less, "00001"); val != "" || e != api.OK || f != api.ENONE {
		t.Errorf("P7.1: Drop from a great tree: %q, %d, %d", val, e, f)
	}
}

// TestShelfErrors lets each call that is made of the shelf fail, by any error.
func TestShelfErrors(t *testing.T) {
	made := func() *shelf {
		val := strings.Repeat("v", 290)
		return newShelf(leafOf("a", val, "b", val, "c", val), leafOf("f", "3"), leafOf("m", "5"), branchOf("f", 1, 2), branchOf("m", 4, 3))
	}
	wants := map[string]int{"Find": 3, "Put": 6, "Drop": 6, "Range": 5, "Pages": 5, "Deep": 5, "a Put that splits": 7, "a Drop that empties": 4}
	for _, fail := range []api.Errno{api.EARG, api.EFORM, api.EOFF, api.ENONE, api.EFULL, api.EFUNDS, 99, -1} {
		for name, want := range wants {
			for failAt := 1; ; failAt++ {
				s := made()
				s.failAt, s.fail = failAt, fail
				all := calls(s, 5, "a")
				all["a Put that splits"] = func() outcome {
					n, e := Put(s, 5, "d", strings.Repeat("v", 290))
					return outcome{fmt.Sprint(n), e}
				}
				all["a Drop that empties"] = func() outcome { n, e := Drop(s, 5, "f"); return outcome{fmt.Sprint(n), e} }
				got := all[name]()
				if s.calls < failAt {
					if got.e != api.OK || s.calls != want {
						t.Errorf("P7.1: %s: %d, %d calls of the shelf; want %d", name, got.e, s.calls, want)
					}
					break
				}
				wantError(t, fmt.Sprintf("P7.1: %s, whose call %d of the shelf fails", name, failAt), got, fail)
				if s.calls != failAt {
					t.Errorf("P7.1: %s goes on behind an error of the shelf", name)
				}
			}
		}
	}
}

// A page that is not there is the shelf's error, wherever it is met.
func TestMissingPages(t *testing.T) {
	for _, kid := range []uint64{9, math.MaxUint64} {
		for name := range calls(nil, 0, "") {
			s := newShelf(leafOf("z", "1"), branchOf("z", kid, 1))
			wantError(t, "P7.1: "+name+" of a root that is not there", calls(s, kid, "a")[name](), api.ENONE)
			wantError(t, "P7.1: "+name+" of a kid that is not there", calls(s, 2, "a")[name](), api.ENONE)
			if len(s.order) != 2 {
				t.Errorf("R3: %s adds pages", name)
			}
		}
	}
}

// TestWrongPages has pages on the shelf that may not be: the calls end, with EFORM.
func TestWrongPages(t *testing.T) {
	long := strings.Repeat("x", 401)
	for i, p := range []page.Page{
		{}, {Kids: []uint64{0}}, {Keys: []string{"m"}}, {Keys: []string{"b", "m"}, Kids: []uint64{1}}, {Kids: []uint64{1, 1}}, {Keys: []string{"m"}, Kids: []uint64{1, 0}}, {Keys: []string{"m"}, Kids: []uint64{0, 1}},
		{Keys: []string{"b"}, Kids: []uint64{1, 1}, Vals: []string{"1"}}, branchOf("b a", 1, 1, 1), branchOf(long, 1, 1),
		{Leaf: true, Keys: []string{"a", "b"}}, {Leaf: true, Keys: []string{"a", "b"}, Vals: []string{"1"}}, {Leaf: true, Vals: []string{"1"}}, {Leaf: true, Kids: []uint64{1}},
		leafOf("b", "1", "a", "2"), leafOf("a", "1", "a", "2"), leafOf("", "1"), leafOf(long, "1"), leafOf("a", long),
	} {
		for name := range calls(nil, 0, "") {
			for _, key := range []string{"a", "b", "z"} {
				s := newShelf(leafOf("a", "1", "b", "2", "z", "3"), p, branchOf("", 2))
				wantError(t, fmt.Sprintf("R1: %s of the wrong page %d", name, i), calls(s, 2, key)[name](), api.EFORM)
				wantError(t, fmt.Sprintf("R1: %s above the wrong page %d", name, i), calls(s, 3, key)[name](), api.EFORM)
				if len(s.order) != 3 {
					t.Errorf("R3: %s of the wrong page %d adds pages", name, i)
				}
			}
		}
	}
}

// TestGreatPages has pages far past the limit on the shelf, as its owner may: the calls end, and a page is split once.
func TestGreatPages(t *testing.T) {
	leaf := leafOf()
	for i := range 5000 {
		leaf.Keys, leaf.Vals = append(leaf.Keys, fmt.Sprintf("%05d", i)), append(leaf.Vals, "v")
	}
	s := newShelf(leaf)
	root, e := Put(s, 1, "x", "y")
	if root != 4 || e != api.OK {
		t.Fatalf("P7.1: Put into a great leaf: %d, %d", root, e)
	}
	l, e := Range(s, root, "", "", math.MaxInt)
	keys := []string{}
	for _, x := range l {
		keys = append(keys, x.Key)
	}
	if e != api.OK || !slices.Equal(keys, append(leaf.Keys, "x")) {
		t.Errorf("P7.3: Range of what was a great leaf: %d items, %d", len(l), e)
	}
}
