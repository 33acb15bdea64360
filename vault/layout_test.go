package vault

import (
	"fmt"
	"math"
	"strings"
	"testing"

	"publican/api"
	"publican/pack"
	"publican/page"
)

func pageFrame(n uint64, p page.Page) written {
	return written{80, string(append(pack.U(nil, n), page.Encode(p)...))}
}

func rootFrame(commit, root, last uint64) written {
	return written{82, string(pack.U(pack.U(pack.U(nil, commit), root), last))}
}

func leafFrame(n uint64, key, val string) written {
	return pageFrame(n, page.Page{Leaf: true}.Put(key, val))
}

// The bytes of two commits, written out.
func TestBytes(t *testing.T) {
	v, d := made(t, 64)
	commit(t, v, put("a", "1"))
	commit(t, v, put("b", ""), drop("a"), put("a", "3"))
	want := []written{{80, "\x01L\x01\x01a\x011"}, {82, "\x01\x01\x01"}, {80, "\x02L\x02\x01a\x013\x01b\x00"}, {82, "\x02\x02\x02"}}
	l := areas(t, d)
	if got := readHalf(t, l[0]); got.life != 1 || fmt.Sprint(got.frames) != fmt.Sprint(want) || len(l[1].All()) != 0 {
		t.Errorf("P8.1: life %d, frames %q; want %q", got.life, got.frames, want)
	}
}

// Pages that are made and not reached at the end take no numbers; those that are reached are written in the order in which they were made.
func TestNumbersGivenAnew(t *testing.T) {
	v, d := made(t, 128)
	x := strings.Repeat("x", 300)
	// Leaves 1; 2; 3; 4 and 5, branch 6; then b's changes: leaf 7, branch 8. Left are 5, 7, 8.
	commit(t, v, put("a", x), put("b", x), put("a", x), put("c", x), put("b", "y"), put("b", "z"))
	one := page.Page{Leaf: true}.Put("a", x)
	two := page.Page{Leaf: true}.Put("b", "z").Put("c", x)
	want := []written{pageFrame(1, one), pageFrame(2, two), pageFrame(3, page.Page{Keys: []string{"b"}, Kids: []uint64{1, 2}}), rootFrame(1, 3, 3)}
	if got := readHalf(t, areas(t, d)[0]); fmt.Sprint(got.frames) != fmt.Sprint(want) {
		t.Errorf("P8.1: frames %q; want %q", got.frames, want)
	}
	// A branch with one kid alone is replaced by that kid: no page is new, but the root is another one.
	commit(t, v, drop("a"))
	want = append(want, rootFrame(2, 2, 3))
	commit(t, v, put("d", ""))
	want = append(want, pageFrame(4, two.Put("d", "")), rootFrame(3, 4, 4))
	if got := readHalf(t, areas(t, d)[0]); fmt.Sprint(got.frames) != fmt.Sprint(want) {
		t.Errorf("P8.1: frames %q; want %q", got.frames, want)
	}
}

func TestMoveRenumbers(t *testing.T) {
	d := newDisk(t, 64)
	hand(t, d, 1, 9, leafFrame(70, "c", "3"), leafFrame(20, "b", "2"), leafFrame(30, "a", "1"), pageFrame(40, page.Page{Keys: []string{"c"}, Kids: []uint64{20, 70}}), pageFrame(41, page.Page{Keys: []string{"b"}, Kids: []uint64{30, 40}}), rootFrame(5, 41, 77), written{1, strings.Repeat("x", 44+63*22)[:1000]}, written{1, strings.Repeat("x", 380)})
	v := open(t, d)
	wantStatus(t, "a vault by hand", v, "commits 5, pages 5, moves 0, room 2")
	commit(t, v, put("c", "4"))
	wantStatus(t, "P8.2: behind a move", v, "commits 6, pages 5, moves 1, room 26")
	want := []written{
		pageFrame(1, page.Page{Keys: []string{"b"}, Kids: []uint64{2, 3}}), leafFrame(2, "a", "1"), pageFrame(3, page.Page{Keys: []string{"c"}, Kids: []uint64{4, 5}}), leafFrame(4, "b", "2"), leafFrame(5, "c", "4"), rootFrame(6, 1, 5),
	}
	if got := readHalf(t, areas(t, d)[0]); got.life != 10 || fmt.Sprint(got.frames) != fmt.Sprint(want) {
		t.Errorf("P8.2: moved: life %d, frames %q; want %q", got.life, got.frames, want)
	}
	if told(t, v) != "a=1 b=2 c=4 " || told(t, open(t, d)) != "a=1 b=2 c=4 " {
		t.Errorf("P8.2: moved: %q", told(t, v))
	}
}

// What stands on the disk, and what Open finds there.
func TestWhatOpenFinds(t *testing.T) {
	one, two, three := leafFrame(1, "a", "1"), leafFrame(1, "a", "2"), leafFrame(1, "a", "3")
	root := rootFrame(7, 1, 1)
	cut := func(f written) written { f.payload = f.payload[:len(f.payload)-1]; return f }
	longer := func(f written) written { f.payload += "\x00"; return f }
	kind := func(f written, k byte) written { f.kind = k; return f }
	type disks struct {
		lives [2]uint64
		l     [2][]written
	}
	for _, c := range []struct {
		what string
		d    disks
		want string
		at   uint64
		room int
	}{
		{"nothing", disks{}, "", 0, 32},
		{"a root and its page", disks{[2]uint64{3}, [2][]written{{one, root}}}, "a=1 ", 7, 30},
		{"the same in the second area", disks{[2]uint64{0, 3}, [2][]written{nil, {one, root}}}, "a=1 ", 7, 30},
		{"a root ahead of its page", disks{[2]uint64{3}, [2][]written{{root, one}}}, "a=1 ", 7, 30},
		{"pages without a root", disks{[2]uint64{3, 5}, [2][]written{{one}, {two}}}, "", 0, 32},
		{"the greater life is the first's", disks{[2]uint64{5, 4}, [2][]written{{one, root}, {two, rootFrame(8, 1, 1)}}}, "a=1 ", 7, 30},
		{"the greater life is the second's", disks{[2]uint64{4, 5}, [2][]written{{one, root, one}, {two, rootFrame(2, 1, 1)}}}, "a=2 ", 2, 30},
		{"great lives", disks{[2]uint64{1 << 63, 1<<63 - 1}, [2][]written{{one, root}, {two, root}}}, "a=1 ", 7, 30},
		{"the greater life has no root", disks{[2]uint64{4, 5}, [2][]written{{one, root}, {two, two}}}, "a=1 ", 7, 30},
		{"the greater life, the first's, has no root", disks{[2]uint64{6, 5}, [2][]written{{one}, {two, root}}}, "a=2 ", 7, 30},
		{"the last root counts", disks{[2]uint64{1}, [2][]written{{leafFrame(2, "b", "2"), rootFrame(9, 2, 2), one, root}}}, "a=1 ", 7, 28},
		{"the last page counts", disks{[2]uint64{1}, [2][]written{{one, two, root}}}, "a=2 ", 7, 29},
		{"the last page counts, behind the root too", disks{[2]uint64{1}, [2][]written{{one, two, root, three}}}, "a=3 ", 7, 28},
		{"pages behind the root", disks{[2]uint64{1}, [2][]written{{one, root, leafFrame(2, "z", "z")}}}, "a=1 ", 7, 29},
		{"frames of other kinds", disks{[2]uint64{1}, [2][]written{{one, root, kind(two, 81), kind(two, 0), kind(rootFrame(9, 0, 0), 83), kind(rootFrame(9, 0, 0), 80)}}}, "a=1 ", 7, 26},
		{"a page without form", disks{[2]uint64{1}, [2][]written{{one, root, cut(two), longer(two), {80, ""}, {80, "\x01"}, {80, "\x81\x00" + two.payload[1:]}, {80, "\x81"}}}}, "a=1 ", 7, 24},
		{"a page that is not good", disks{[2]uint64{1}, [2][]written{{one, root, pageFrame(1, page.Page{Kids: []uint64{0}}), pageFrame(1, page.Page{Leaf: true, Keys: []string{""}, Vals: []string{"x"}})}}}, "a=1 ", 7, 28},
		{"a root without form", disks{[2]uint64{1}, [2][]written{{one, root, {82, ""}, {82, "\x08\x01"}, {82, "\x08\x01\x01\x00"}, {82, "\x08\x81\x00\x01"}, {82, "\x08\x01\x80"}}}}, "a=1 ", 7, 25},
		{"a root without form alone", disks{[2]uint64{8, 1}, [2][]written{{two, {82, "\x08\x01"}}, {one, root}}}, "a=1 ", 7, 30},
		{"the root 0", disks{[2]uint64{1}, [2][]written{{one, rootFrame(9, 0, 1)}}}, "", 9, 30},
		{"commit 0", disks{[2]uint64{1}, [2][]written{{one, rootFrame(0, 1, 1)}}}, "a=1 ", 0, 30},
		{"life 0", disks{[2]uint64{0}, [2][]written{{one, root}}}, "a=1 ", 7, 30},
		{"the greatest numbers", disks{[2]uint64{1}, [2][]written{{leafFrame(math.MaxUint64, "a", "1"), rootFrame(math.MaxUint64, math.MaxUint64, math.MaxUint64)}}}, "a=1 ", math.MaxUint64, 30},
	} {
		d := newDisk(t, 64)
		for side, l := range c.d.l {
			hand(t, d, side, c.d.lives[side], l...)
		}
		image := dump(t, d)
		v := open(t, d)
		if told(t, v) != c.want || v.Commits() != c.at || v.Room() != c.room || v.Moves() != 0 {
			t.Errorf("P8.1: %s: %q, %s; want %q, commits %d, room %d", c.what, told(t, v), status(v), c.want, c.at, c.room)
		}
		if dump(t, d) != image {
			t.Errorf("P8.1: %s: Open writes", c.what)
		}
	}
}

// A new vault's life is one above all that stands there, so that nothing of it is taken for the vault's.
func TestNewAboveElderLives(t *testing.T) {
	for _, lives := range [][2]uint64{{0, 0}, {3, 0}, {0, 3}, {3, 9}, {9, 3}, {math.MaxUint64 - 1, 4}, {4, math.MaxUint64 - 1}} {
		d := newDisk(t, 64)
		for side, life := range lives {
			if life > 0 {
				hand(t, d, side, life, leafFrame(1, "old", "1"), leafFrame(2, "old", "1"), leafFrame(3, "old", "1"))
			}
		}
		v := open(t, d)
		commit(t, v, put("a", "1"))
		want := 1 + max(lives[0], lives[1])
		if l := areas(t, d); l[0].Life() != want || len(l[0].All()) != 2 {
			t.Errorf("P8.1: a new one above the lives %d: life %d, %d frames; want %d, 2", lives, l[0].Life(), len(l[0].All()), want)
		}
		wantStatus(t, "P8.4: opened", open(t, d), "commits 1, pages 1, moves 0, room 30")
	}
}

// Pages of a commit that was cut off stand there under numbers that the next one gives anew.
func TestLeftBehindByACut(t *testing.T) {
	d := newDisk(t, 64)
	hand(t, d, 0, 1, leafFrame(1, "a", "1"), rootFrame(1, 1, 1), leafFrame(2, "lost", "x"), leafFrame(3, "lost", "y"))
	v := open(t, d)
	wantStatus(t, "behind a cut", v, "commits 1, pages 1, moves 0, room 28")
	commit(t, v, put("b", "2"))
	if told(t, v) != "a=1 b=2 " || told(t, open(t, d)) != "a=1 b=2 " {
		t.Errorf("P8.4: behind a cut: %q, opened %q", told(t, v), told(t, open(t, d)))
	}
	commit(t, v, put("c", "3"))
	if told(t, v) != "a=1 b=2 c=3 " || told(t, open(t, d)) != "a=1 b=2 c=3 " {
		t.Errorf("P8.4: behind a cut: %q, opened %q", told(t, v), told(t, open(t, d)))
	}
}

// Trees that no vault has written: the calls end, and answer an error where they can't go on.
func TestWrongTrees(t *testing.T) {
	branch := func(key string, kids ...uint64) page.Page { return page.Page{Keys: strings.Fields(key), Kids: kids} }
	for _, c := range []struct {
		what  string
		l     []written
		e     api.Errno
		pages int
	}{
		{"a root that is not there", []written{rootFrame(1, 5, 5)}, api.EFORM, 0},
		{"a kid that is not there", []written{leafFrame(1, "z", "1"), pageFrame(2, branch("m", 9, 1)), rootFrame(1, 2, 2)}, api.EFORM, 0},
		{"a ring", []written{pageFrame(1, branch("m", 1, 1)), rootFrame(1, 1, 1)}, api.EFORM, 0},
		{"a ring of two", []written{pageFrame(1, branch("m", 2, 2)), pageFrame(2, branch("m", 1, 1)), rootFrame(1, 1, 2)}, api.EFORM, 0},
	} {
		d := newDisk(t, 64)
		hand(t, d, 0, 1, c.l...)
		image := dump(t, d)
		v := open(t, d)
		if v.Pages() != c.pages || v.Cached() > api.MaxCached {
			t.Errorf("R1: %s: %d pages; want %d", c.what, v.Pages(), c.pages)
		}
		if val, e := v.Get("a"); val != "" || e != c.e {
			t.Errorf("R1: %s: Get %q, %d; want error %d", c.what, val, e, c.e)
		}
		if l, e := v.Range("", "", 9); len(l) != 0 || e != c.e {
			t.Errorf("R1: %s: Range %v, %d; want error %d", c.what, l, e, c.e)
		}
		for _, ch := range []Change{put("a", "1"), put("z", "1"), drop("a"), drop("z")} {
			if e := v.Commit(ch); e != c.e || dump(t, d) != image {
				t.Errorf("R1: %s: Commit %d; want error %d", c.what, e, c.e)
			}
		}
	}
	// A root that tells of fewer pages than there are: numbers meet, and the calls still end.
	for _, last := range []uint64{0, 1, 2, 3} {
		d := newDisk(t, 64)
		hand(t, d, 0, 1, leafFrame(1, "a", "1"), leafFrame(2, "m", "2"), pageFrame(3, branch("m", 1, 2)), rootFrame(1, 3, last))
		v := open(t, d)
		for _, ch := range []Change{put("a", "1"), put("z", "1"), drop("a"), put("m", "3"), drop("z")} {
			v.Commit(ch)
			v.Get("a")
			v.Range("", "", 9)
			v = open(t, d)
		}
	}
}
