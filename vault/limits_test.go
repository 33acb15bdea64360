package vault

import (
	"fmt"
	"math"
	"math/rand"
	"strings"
	"testing"

	"publican/api"
	"publican/disk"
	"publican/frame"
	"publican/page"
)

func number(i int) string { return fmt.Sprintf("%05d", i) }

// spread makes a map of so many pages: leaves that were split by great values, and then got small ones.
func spread(t *testing.T, v *Vault, pages int) (keys int) {
	t.Helper()
	for v.Pages() < pages {
		commit(t, v, put(number(keys), strings.Repeat("v", 400)))
		if keys > 1 {
			commit(t, v, put(number(keys-2), ""))
		}
		keys++
	}
	if v.Pages() != pages {
		t.Fatalf("%d pages; want %d", v.Pages(), pages)
	}
	return keys
}

func TestMaxPages(t *testing.T) {
	v, d := made(t, 4096)
	keys := spread(t, v, api.MaxPages)
	was, ahead, image := told(t, v), status(v), dump(t, d)
	long := strings.Repeat("v", 400)
	more := []Change{put(number(keys), long), put(number(keys+1), long), put(number(keys+2), long), put(number(keys+3), long)}
	if e := v.Commit(more...); e != api.EFULL {
		t.Errorf("P8.1: a Commit that makes more pages than may be: %d; want error 6", e)
	}
	if told(t, v) != was || status(v) != ahead || dump(t, d) != image {
		t.Errorf("R3: a Commit that is refused changes something")
	}
	// What counts is what is reached at the end.
	for i := range more {
		more = append(more, drop(more[i].Key), drop(number(i)))
	}
	commit(t, v, more...)
	if o := open(t, d); told(t, o) != told(t, v) || o.Pages() != v.Pages() || v.Pages() > api.MaxPages {
		t.Errorf("P8.4: opened: %s; want %s", status(o), status(v))
	}
	// About the limit it is as the model has it.
	m := newModel(t, d)
	m.moves = v.Moves()
	r := rand.New(rand.NewSource(2))
	full, just := 0, 0
	for range 300 {
		l := []Change{put(number(r.Intn(9))+string(rune('a'+r.Intn(5))), strings.Repeat("v", 400*r.Intn(2)))}
		if r.Intn(8) == 0 {
			l[0].Drop = true
		}
		e, want := v.Commit(l...), m.do(l)
		if e != want || status(v) != m.status() {
			t.Fatalf("P8.1: about the limit: %d, %s; want %d, %s", e, status(v), want, m.status())
		}
		if e == api.EFULL && v.Pages() == api.MaxPages {
			full++
		}
		if e == api.OK && v.Pages() == api.MaxPages {
			just++
		}
	}
	if full == 0 || just == 0 {
		t.Errorf("%d commits made too many pages, %d just so many; there should be some", full, just)
	}
}

// One commit may go through trees of any size.
func TestManyChanges(t *testing.T) {
	var puts, drops []Change
	for i := range 9000 {
		puts, drops = append(puts, put(number(i), strings.Repeat("v", 400))), append(drops, drop(number(i)))
	}
	v, d := made(t, 4096)
	if e := v.Commit(puts...); e != api.EFULL {
		t.Errorf("P8.1: a Commit of thousands of pages: %d; want error 6", e)
	}
	wantStatus(t, "R3: behind EFULL", v, "commits 0, pages 0, moves 0, room 2048")
	commit(t, v, append(append(puts, drops[1:]...), put("a", "1"))...)
	if told(t, v) != "00000="+strings.Repeat("v", 400)+" a=1 " || told(t, open(t, d)) != told(t, v) {
		t.Errorf("P8.1: a Commit of thousands of changes: %q", told(t, v))
	}
	commit(t, v, append(puts, drops...)...)
	if told(t, v) != "a=1 " || d.Writes() > 100 {
		t.Errorf("P8.1: pages that are not reached at the end are written: %d writes", d.Writes())
	}
	r := rand.New(rand.NewSource(1))
	m := newModel(t, d)
	l := changer{r, 500, 300, 9}.changes(1 << 16)
	if e, want := v.Commit(l...), m.do(l); e != want {
		t.Errorf("P8.1: a Commit of %d changes: %d; want %d", len(l), e, want)
	}
	m.moves = v.Moves()
	m.agree(t, "P8.1: a Commit of many changes", v, d)
}

// fill fills a vault's active area up to so many sectors, by commits of one small leaf.
func fill(t *testing.T, v *Vault, room int) {
	t.Helper()
	for v.Room() > room {
		commit(t, v, put("a", "1"))
	}
	if v.Room() != room {
		t.Fatalf("room %d; want %d", v.Room(), room)
	}
}

// The frames of a commit fit just so, or it moves.
func TestMovesAtTheEdge(t *testing.T) {
	for _, c := range []struct {
		sectors, room int
		moves         int
		want          string
	}{{64, 2, 0, "commits 16, pages 1, moves 0, room 0"}, {66, 3, 0, "commits 16, pages 1, moves 0, room 1"}, {66, 1, 1, "commits 17, pages 1, moves 1, room 31"}, {64, 0, 1, "commits 17, pages 1, moves 1, room 30"}} {
		v, d := made(t, c.sectors)
		fill(t, v, c.room)
		commit(t, v, put("a", "2"))
		wantStatus(t, fmt.Sprintf("P8.2: behind a Commit with %d sectors left", c.room), v, c.want)
		if o := open(t, d); told(t, o) != "a=2 " || o.Moves() != 0 || o.Room() != v.Room() || o.Commits() != v.Commits() {
			t.Errorf("P8.4: opened: %q, %s", told(t, o), status(o))
		}
	}
	// A root alone moves, too.
	v, d := made(t, 64)
	fill(t, v, 0)
	commit(t, v, drop("a"))
	wantStatus(t, "P8.2: a move of nothing", v, "commits 17, pages 0, moves 1, room 31")
	wantStatus(t, "P8.4: a move of nothing, opened", open(t, d), "commits 17, pages 0, moves 0, room 31")
	commit(t, v, put("a", "1"))
	m := newModel(t, d)
	m.moves = 1
	m.agree(t, "P8.2: behind a move of nothing", v, d)
}

// The lives of the areas rise by one with each move.
func TestLives(t *testing.T) {
	v, d := made(t, 32)
	for moves := range 20 {
		if got := areas(t, d)[moves%2].Life(); moves > 0 && got != uint64(moves)+1 {
			t.Errorf("P8.2: life %d behind %d moves", got, moves)
		}
		for v.Moves() == moves {
			commit(t, v, put("a", number(moves)))
			if l := areas(t, d); v.Moves() > 0 && l[v.Moves()%2].Life() != 1+l[1-v.Moves()%2].Life() {
				t.Fatalf("P8.2: lives %d and %d behind %d moves", l[0].Life(), l[1].Life(), v.Moves())
			}
		}
	}
	if v = open(t, d); v.Moves() != 0 || told(t, v) != "a=00019 " {
		t.Errorf("P8.3: opened behind 20 moves: %s, %q", status(v), told(t, v))
	}
}

func TestNoRoom(t *testing.T) {
	v, d := made(t, 32)
	long := strings.Repeat("v", 400)
	commit(t, v, put("a", long))
	for i, l := range [][]Change{{put("b", long)}, {put("b", long), put("c", "1")}, {put("a", "1"), put("b", long), put("c", long), put("d", long)}} {
		was, ahead, image := told(t, v), status(v), dump(t, d)
		twice := 0
		for range 3 {
			if e := v.Commit(append(l, put("z", long))...); e == api.EFULL {
				twice++
			}
		}
		if twice != 3 || told(t, v) != was || status(v) != ahead || dump(t, d) != image {
			t.Errorf("P8.2: changes %d without room: %d refused, %s; want %s", i, twice, status(v), ahead)
		}
	}
	// The vault goes on, and its next move has the next life.
	for range 8 {
		commit(t, v, put("a", "small"))
	}
	if l := areas(t, d); v.Moves() != 1 || l[0].Life() != 1 || l[1].Life() != 2 || told(t, v) != "a=small " {
		t.Errorf("P8.2: behind EFULL: %s, lives %d and %d", status(v), l[0].Life(), l[1].Life())
	}
}

// hand writes frames by hand into one half of a disk.
func hand(t *testing.T, d *disk.Disk, side int, life uint64, l ...written) {
	t.Helper()
	a := areas(t, d)[side]
	a.Begin(life)
	for _, f := range l {
		if _, e := a.Add(f.kind, []byte(f.payload)); e != api.OK {
			t.Fatalf("frame's Add: %d", e)
		}
	}
}

func TestLastNumbers(t *testing.T) {
	leaf := pageFrame(5, page.Page{Leaf: true}.Put("a", "1"))
	for _, c := range []struct {
		what  string
		lives [2]uint64
		root  written
		l     []Change
		e     api.Errno
	}{
		{"a commit's", [2]uint64{1, 0}, rootFrame(math.MaxUint64, 5, 5), []Change{put("a", "2")}, api.EFULL},
		{"a commit's, of nothing", [2]uint64{1, 0}, rootFrame(math.MaxUint64, 5, 5), []Change{drop("z")}, api.OK},
		{"a commit's, the last", [2]uint64{1, 0}, rootFrame(math.MaxUint64-1, 5, 5), []Change{put("a", "2")}, api.OK},
		{"a page's", [2]uint64{1, 0}, rootFrame(1, 5, math.MaxUint64), []Change{put("a", "2")}, api.EFULL},
		{"a page's, the last", [2]uint64{1, 0}, rootFrame(1, 5, math.MaxUint64-1), []Change{put("a", "2")}, api.OK},
		{"a page's, with one too many", [2]uint64{1, 0}, rootFrame(1, 5, math.MaxUint64-1), []Change{put("a", "2"), put("b", "3")}, api.EFULL},
		{"a page's, that none is made of", [2]uint64{1, 0}, rootFrame(1, 5, math.MaxUint64), []Change{drop("a")}, api.OK},
		{"an area's life", [2]uint64{math.MaxUint64, 0}, rootFrame(1, 5, 5), []Change{put("a", "2")}, api.OK},
		{"an area's life, at a move", [2]uint64{math.MaxUint64, 0}, rootFrame(1, 5, 5), []Change{put("a", strings.Repeat("v", 400)), put("b", strings.Repeat("v", 400))}, api.EFULL},
		{"the other's life, at a move", [2]uint64{1, math.MaxUint64}, rootFrame(1, 5, 5), []Change{put("a", strings.Repeat("v", 400)), put("b", strings.Repeat("v", 400))}, api.EFULL},
		{"the last life, at a move", [2]uint64{math.MaxUint64 - 1, 1}, rootFrame(1, 5, 5), []Change{put("a", strings.Repeat("v", 400)), put("b", strings.Repeat("v", 400))}, api.OK},
	} {
		d := newDisk(t, 44)
		other := written{81, "no root"}
		hand(t, d, 0, c.lives[0], leaf, c.root, written{7, strings.Repeat("x", 300)})
		if c.lives[1] > 0 {
			hand(t, d, 1, c.lives[1], other)
		}
		v := open(t, d)
		was, image := told(t, v), dump(t, d)
		if e := v.Commit(c.l...); e != c.e {
			t.Errorf("P8.2: %s number: %d; want %d", c.what, e, c.e)
		}
		want := was
		if c.e == api.OK {
			want = showMap(changed(map[string]string{"a": "1"}, c.l))
		} else if dump(t, d) != image {
			t.Errorf("P8.2: %s number: something is written", c.what)
		}
		if told(t, v) != want || told(t, open(t, d)) != want {
			t.Errorf("P8.2: %s number: %q; want %q", c.what, told(t, v), want)
		}
	}
}

// There is no life above the last one: such a disk can be opened, but nothing can be written.
func TestNoLifeLeft(t *testing.T) {
	for side := range 2 {
		d := newDisk(t, 64)
		hand(t, d, side, math.MaxUint64, written{7, "neither"})
		v := open(t, d)
		wantStatus(t, "P8.1: a new one without a life", v, "commits 0, pages 0, moves 0, room 32")
		image := dump(t, d)
		if e := v.Commit(put("a", "1")); e != api.EFULL || dump(t, d) != image || told(t, v) != "" {
			t.Errorf("P8.2: Commit without a life left: %d; want error 6", e)
		}
		if e := v.Commit(drop("a")); e != api.OK {
			t.Errorf("P8.1: Commit of nothing without a life left: %d", e)
		}
	}
}

// A tree that grew too deep could not be read any more: that is refused ahead of writing it.
func TestTooDeep(t *testing.T) {
	d := newDisk(t, 4096)
	val := strings.Repeat("v", 400)
	frames := []written{
		pageFrame(1, page.Page{Leaf: true}.Put("a", "1")),
		pageFrame(2, page.Page{Leaf: true}.Put("b", "2")),
	}
	// Eighteen branches above the first leaf, so that the root is the twentieth.
	n := uint64(2)
	below := uint64(1)
	for i := range 18 {
		key := "b"
		if i > 0 {
			key = "b" + strings.Repeat("c", i)
		}
		leaf := page.Page{Leaf: true}.Put(key, "2")
		frames = append(frames, pageFrame(n, leaf), pageFrame(n+1, page.Page{Keys: []string{key}, Kids: []uint64{below, n}}))
		below = n + 1
		n += 2
	}
	// The root has nearly as many bytes as it may.
	top := page.Page{Kids: []uint64{below}}
	for i := 0; page.Bytes(top) < api.PageBytes-50; i++ {
		key := "k" + number(i) + strings.Repeat("k", 30)
		frames = append(frames, pageFrame(n, page.Page{Leaf: true}.Put(key, val).Put(key+"z", val)))
		top.Keys, top.Kids = append(top.Keys, key), append(top.Kids, n)
		n++
	}
	frames = append(frames, pageFrame(n, top), rootFrame(1, n, n))
	hand(t, d, 0, 1, frames...)
	v := open(t, d)
	was, ahead, image := told(t, v), status(v), dump(t, d)
	more := []Change{}
	for i := range 2 {
		more = append(more, put(top.Keys[i]+"a", val))
	}
	if e := v.Commit(more...); e != api.EFORM {
		t.Errorf("P7.2: a tree too deep: %d; want error 3", e)
	}
	if told(t, v) != was || status(v) != ahead || dump(t, d) != image {
		t.Errorf("R3: a Commit that is refused changes something: %s; want %s", status(v), ahead)
	}
	commit(t, v, drop("a"))
	if val, e := v.Get("a"); val != "" || e != api.ENONE {
		t.Errorf("P8.2: behind EFORM: %q, %d", val, e)
	}
}

// A move gives kids new numbers, which can take more bytes: a branch may get too great for its frame.
func TestBranchTooGreatToMove(t *testing.T) {
	d := newDisk(t, 4096)
	var frames []written
	leaf := func(n uint64, key string) {
		frames = append(frames, pageFrame(n, page.Page{Leaf: true}.Put(key, "")))
	}
	var left, right page.Page
	for i := range 127 {
		key := "r" + fmt.Sprintf("%04d", i)
		leaf(uint64(i+1), key)
		right.Kids = append(right.Kids, uint64(i+1))
		if i > 0 {
			right.Keys = append(right.Keys, key)
		}
	}
	for i := range 126 {
		key := "l" + fmt.Sprintf("%03d", i)
		leaf(uint64(i+130), key)
		left.Kids = append(left.Kids, uint64(i+130))
		if i > 0 {
			left.Keys = append(left.Keys, key)
		}
	}
	// 885 bytes, and with the numbers 130 to 256 of a move 1012.
	if page.Bytes(right) != 885 || page.Bytes(left) > api.PageBytes {
		t.Fatalf("%d and %d bytes", page.Bytes(right), page.Bytes(left))
	}
	frames = append(frames, pageFrame(128, right), pageFrame(129, left), pageFrame(256, page.Page{Keys: []string{"m"}, Kids: []uint64{129, 128}}), rootFrame(1, 256, 256))
	for room := 2048 - sectors(frames); room > 14; room-- {
		frames = append(frames, written{1, ""})
	}
	hand(t, d, 0, 1, frames...)
	v := open(t, d)
	wantStatus(t, "a vault by hand", v, "commits 1, pages 256, moves 0, room 14")
	was, image := told(t, v), dump(t, d)
	if e := v.Commit(put("l000", strings.Repeat("v", 400))); e != api.EFULL || told(t, v) != was || dump(t, d) != image {
		t.Errorf("P8.2: a move of a branch of more than 1000 bytes: %d; want error 6", e)
	}
	// Without some kids it has room again.
	var drops []Change
	for i := range 20 {
		drops = append(drops, drop("r"+fmt.Sprintf("%04d", 2*i)))
	}
	commit(t, v, drops...)
	if o := open(t, d); v.Moves() != 1 || v.Pages() != 236 || told(t, o) != told(t, v) || len(told(t, v)) >= len(was) {
		t.Errorf("P8.2: behind EFULL: %s", status(v))
	}
}

// sectors tells how many sectors frames take.
func sectors(l []written) int {
	n := 0
	for _, f := range l {
		n += frame.Size(len(f.payload))
	}
	return n
}
