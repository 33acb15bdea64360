package tree

import (
	"fmt"
	"strings"
	"testing"

	"publican/api"
	"publican/page"
)

func TestExamples(t *testing.T) {
	s := newShelf()
	root, e := Put(s, 0, "a", "1")
	if root != 1 || e != api.OK {
		t.Errorf("P7.1: Put(0, a, 1): %d, %d; want 1", root, e)
	}
	wantPages(t, "P7.1: Put(0, a, 1)", s, 0, leafOf("a", "1"))
	if root, e := Drop(s, root, "a"); root != 0 || e != api.OK {
		t.Errorf("P7.1: Drop of a: %d, %d; want 0", root, e)
	}
	wantPages(t, "P7.1: Drop of the last one", s, 0, leafOf("a", "1"))
}

func TestEmptyMap(t *testing.T) {
	s := newShelf()
	if val, e := Find(s, 0, "a"); val != "" || e != api.ENONE {
		t.Errorf("P7.1: Find in nothing: %q, %d; want error 5", val, e)
	}
	if root, e := Drop(s, 0, "a"); root != 0 || e != api.ENONE {
		t.Errorf("P7.1: Drop of nothing: %d, %d; want error 5", root, e)
	}
	if l, e := Range(s, 0, "", "", 9); len(l) != 0 || e != api.OK {
		t.Errorf("P7.2: Range of nothing: %v, %d", l, e)
	}
	if l, e := Pages(s, 0); len(l) != 0 || e != api.OK {
		t.Errorf("P7.2: Pages of nothing: %v, %d", l, e)
	}
	if n, e := Deep(s, 0); n != 0 || e != api.OK {
		t.Errorf("P7.2: Deep of nothing: %d, %d", n, e)
	}
	if s.calls != 0 {
		t.Errorf("P7.1: the root 0 is asked for, or something is added")
	}
}

func TestPutArguments(t *testing.T) {
	key, val := strings.Repeat("k", api.MaxKey), strings.Repeat("v", api.MaxVal)
	// EARG comes ahead of all errors of the shelf: root 5 is none.
	for _, root := range []uint64{0, 1, 5} {
		for _, c := range [][2]string{{"", ""}, {"", "1"}, {key + "k", ""}, {key + "k", "1"}, {"a", val + "v"}, {key, val + "v"}, {"", val + "v"}, {strings.Repeat("k", 9999), strings.Repeat("v", 9999)}} {
			s := newShelf(leafOf("m", "1"))
			if n, e := Put(s, root, c[0], c[1]); n != 0 || e != api.EARG || s.calls != 0 {
				t.Errorf("P7.1: Put into %d of %d and %d bytes: %d, %d; want error 1", root, len(c[0]), len(c[1]), n, e)
			}
		}
	}
	for _, c := range [][2]string{{"a", ""}, {"a", val}, {key, ""}, {key, val}, {"\x00", "\x00"}, {"\xff", "\xff"}} {
		s := newShelf()
		n, e := Put(s, 0, c[0], c[1])
		if n != 1 || e != api.OK {
			t.Errorf("P7.1: Put of %d and %d bytes: %d, %d", len(c[0]), len(c[1]), n, e)
		}
		if got, e := Find(s, n, c[0]); got != c[1] || e != api.OK {
			t.Errorf("P7.1: Find of a key of %d bytes: %q, %d", len(c[0]), got, e)
		}
	}
}

// Keys that no map can have are not there.
func TestKeysThatCannotBe(t *testing.T) {
	for _, key := range []string{"", strings.Repeat("k", api.MaxKey+1), strings.Repeat("\xff", 9999)} {
		s := newShelf(leafOf("a", "1"), leafOf("m", "2"), branchOf("m", 1, 2))
		if val, e := Find(s, 3, key); val != "" || e != api.ENONE {
			t.Errorf("P7.1: Find of a key of %d bytes: %q, %d; want error 5", len(key), val, e)
		}
		if n, e := Drop(s, 3, key); n != 0 || e != api.ENONE || len(s.order) != 3 {
			t.Errorf("P7.1: Drop of a key of %d bytes: %d, %d; want error 5", len(key), n, e)
		}
	}
}

func TestFind(t *testing.T) {
	s := newShelf(leafOf("a", "1", "c", ""), leafOf("f", "3"), leafOf("m", "4", "p", "5"), branchOf("f m", 1, 2, 3))
	for key, want := range map[string]string{"a": "1 0", "c": " 0", "f": "3 0", "m": "4 0", "p": "5 0", "b": " 5", "d": " 5", "e": " 5", "g": " 5", "l": " 5", "n": " 5", "z": " 5", "A": " 5", "aa": " 5", "a\x00": " 5"} {
		val, e := Find(s, 4, key)
		if got := fmt.Sprint(val, " ", int(e)); got != want {
			t.Errorf("P7.1: Find(%q): %s; want %s", key, got, want)
		}
	}
	s.wantUntouched(t)
}

// TestWay puts into and drops from a tree of three leaves: the pages on the way are new, the others stay where they are.
func TestWay(t *testing.T) {
	s := newShelf(leafOf("a", "1", "c", "2"), leafOf("f", "3", "g", "4"), leafOf("m", "5", "p", "6"), branchOf("f m", 1, 2, 3))
	for _, c := range []struct {
		key, val string
		leaf     page.Page
		branch   page.Page
	}{
		{"b", "x", leafOf("a", "1", "b", "x", "c", "2"), branchOf("f m", 5, 2, 3)},
		{"f", "x", leafOf("f", "x", "g", "4"), branchOf("f m", 1, 7, 3)},
		{"f", "3", leafOf("f", "3", "g", "4"), branchOf("f m", 1, 9, 3)}, // as it was, and still new
		{"l", "", leafOf("f", "3", "g", "4", "l", ""), branchOf("f m", 1, 11, 3)},
		{"z", "9", leafOf("m", "5", "p", "6", "z", "9"), branchOf("f m", 1, 2, 13)},
	} {
		begun := len(s.order)
		root, e := Put(s, 4, c.key, c.val)
		if root != uint64(begun+2) || e != api.OK {
			t.Errorf("P7.1: Put(%q): %d, %d; want %d", c.key, root, e, begun+2)
		}
		wantPages(t, "P7.1: Put of "+c.key, s, begun, c.leaf, c.branch)
	}
	begun := len(s.order)
	if root, e := Drop(s, 4, "g"); root != uint64(begun+2) || e != api.OK {
		t.Errorf("P7.1: Drop: %d, %d; want %d", root, e, begun+2)
	}
	wantPages(t, "P7.1: Drop of g", s, begun, leafOf("f", "3"), branchOf("f m", 1, uint64(begun+1), 3))
	wantItems(t, "P7.3: the one ahead", s, 4, Item{"a", "1"}, Item{"c", "2"}, Item{"f", "3"}, Item{"g", "4"}, Item{"m", "5"}, Item{"p", "6"})
	s.wantUntouched(t)
}

func TestDropRefuses(t *testing.T) {
	s := newShelf(leafOf("a", "1"), leafOf("m", "2"), branchOf("m", 1, 2))
	for _, key := range []string{"b", "l", "n", "A", "aa"} {
		if n, e := Drop(s, 3, key); n != 0 || e != api.ENONE {
			t.Errorf("P7.1: Drop(%q): %d, %d; want error 5", key, n, e)
		}
	}
	wantPages(t, "R3: a Drop that is refused", s, 3)
}

// TestDropsThatEmpty drops the last key of a leaf, at each place.
func TestDropsThatEmpty(t *testing.T) {
	leaves := []page.Page{leafOf("a", "1"), leafOf("f", "2"), leafOf("m", "3")}
	for _, c := range []struct {
		told string
		top  []page.Page // behind the three leaves; the last one is the root
		key  string
		root uint64
		new  []page.Page
	}{
		{"the first kid goes with the key behind it", []page.Page{branchOf("f m", 1, 2, 3)}, "a", 5, []page.Page{branchOf("m", 2, 3)}},
		{"a kid goes with the key ahead of it", []page.Page{branchOf("f m", 1, 2, 3)}, "f", 5, []page.Page{branchOf("m", 1, 3)}},
		{"the last kid goes with the key ahead of it", []page.Page{branchOf("f m", 1, 2, 3)}, "m", 5, []page.Page{branchOf("f", 1, 2)}},
		{"one kid alone is the root", []page.Page{branchOf("f", 1, 2)}, "a", 2, nil},
		{"the other one alone", []page.Page{branchOf("f", 1, 2)}, "f", 1, nil},
		{"one kid alone stands for its branch", []page.Page{branchOf("f", 1, 2), branchOf("m", 4, 3)}, "a", 6, []page.Page{branchOf("m", 2, 3)}},
		{"and so on the right", []page.Page{branchOf("m", 2, 3), branchOf("f", 1, 4)}, "m", 6, []page.Page{branchOf("f", 1, 2)}},
		{"a branch that is kid alone stands for the root", []page.Page{branchOf("f", 1, 2), branchOf("m", 4, 3)}, "m", 4, nil},
		{"a branch of one kid that goes, goes too", []page.Page{branchOf("", 2), branchOf("f m", 1, 4, 3)}, "f", 6, []page.Page{branchOf("m", 1, 3)}},
		{"branches of one kid go with it", []page.Page{branchOf("", 1), branchOf("", 4), branchOf("", 5)}, "a", 0, nil},
		{"a branch of one kid that goes leaves one kid alone", []page.Page{branchOf("", 1), branchOf("f", 4, 2)}, "a", 2, nil},
	} {
		s := newShelf(append(leaves[:3:3], c.top...)...)
		begun := len(s.order)
		root, e := Drop(s, uint64(begun), c.key)
		if root != c.root || e != api.OK {
			t.Errorf("P7.1: %s: %d, %d; want %d", c.told, root, e, c.root)
		}
		wantPages(t, "P7.1: "+c.told, s, begun, c.new...)
		s.wantUntouched(t)
	}
}

// TestOneKidAlone has branches of one kid on the way: a Put makes them anew, a Drop puts the kid in their place.
func TestOneKidAlone(t *testing.T) {
	s := newShelf(leafOf("a", "1", "b", "2"), branchOf("", 1), branchOf("", 2))
	if root, e := Put(s, 3, "c", "3"); root != 6 || e != api.OK {
		t.Errorf("P7.1: Put below branches of one kid: %d, %d; want 6", root, e)
	}
	wantPages(t, "P7.1: Put below branches of one kid", s, 3, leafOf("a", "1", "b", "2", "c", "3"), branchOf("", 4), branchOf("", 5))
	if root, e := Drop(s, 3, "a"); root != 7 || e != api.OK {
		t.Errorf("P7.1: Drop below branches of one kid: %d, %d; want 7", root, e)
	}
	wantPages(t, "P7.1: Drop below branches of one kid", s, 6, leafOf("b", "2"))
}

// A leaf without keys is a page that may be, though no call here leaves one.
func TestEmptyLeaf(t *testing.T) {
	s := newShelf(leafOf())
	if val, e := Find(s, 1, "a"); val != "" || e != api.ENONE {
		t.Errorf("P7.1: Find in an empty leaf: %q, %d; want error 5", val, e)
	}
	if n, e := Drop(s, 1, "a"); n != 0 || e != api.ENONE {
		t.Errorf("P7.1: Drop from an empty leaf: %d, %d; want error 5", n, e)
	}
	wantItems(t, "P7.2: an empty leaf", s, 1)
	if l, e := Pages(s, 1); fmt.Sprint(l) != "[1]" || e != api.OK {
		t.Errorf("P7.2: Pages of an empty leaf: %v, %d", l, e)
	}
	if n, e := Deep(s, 1); n != 1 || e != api.OK {
		t.Errorf("P7.2: Deep of an empty leaf: %d, %d", n, e)
	}
	if n, e := Put(s, 1, "a", "1"); n != 2 || e != api.OK {
		t.Errorf("P7.1: Put into an empty leaf: %d, %d", n, e)
	}
	wantPages(t, "P7.1: Put into an empty leaf", s, 1, leafOf("a", "1"))
}

func TestPagesAndDeep(t *testing.T) {
	leaves := []page.Page{leafOf("a", "1"), leafOf("f", "2"), leafOf("m", "3"), leafOf("p", "4")}
	for _, c := range []struct {
		top  []page.Page
		want string
		deep int
	}{
		{nil, "[4]", 1},
		{[]page.Page{branchOf("f m p", 1, 2, 3, 4)}, "[5 1 2 3 4]", 2},
		{[]page.Page{branchOf("f", 1, 2), branchOf("p", 3, 4), branchOf("m", 5, 6)}, "[7 5 1 2 6 3 4]", 3},
		{[]page.Page{branchOf("p", 3, 4), branchOf("m", 2, 5), branchOf("f", 1, 6)}, "[7 1 6 2 5 3 4]", 4},
		{[]page.Page{branchOf("f", 1, 2), branchOf("m", 5, 3), branchOf("p", 6, 4)}, "[7 6 5 1 2 3 4]", 4},
		{[]page.Page{branchOf("", 1)}, "[5 1]", 2},
		{[]page.Page{branchOf("f", 1, 1)}, "[5 1 1]", 2}, // a page that is met twice is told twice
	} {
		s := newShelf(append(leaves[:4:4], c.top...)...)
		root := uint64(len(s.order))
		if l, e := Pages(s, root); fmt.Sprint(l) != c.want || e != api.OK {
			t.Errorf("P7.2: Pages of %s: %v, %d; want %s", shown(c.top), l, e, c.want)
		}
		if n, e := Deep(s, root); n != c.deep || e != api.OK {
			t.Errorf("P7.2: Deep of %s: %d, %d; want %d", shown(c.top), n, e, c.deep)
		}
		if len(s.order) != int(root) {
			t.Errorf("P7.2: Pages or Deep adds pages")
		}
	}
}
