package vault

import (
	"fmt"
	"math/rand"
	"slices"
	"strings"
	"testing"

	"publican/api"
	"publican/disk"
	"publican/frame"
	"publican/pack"
	"publican/page"
	"publican/tree"
)

// written is a frame as it stands on a disk.
type written struct {
	kind    byte
	payload string
}

// half is an area as it stands on a disk.
type half struct {
	life   uint64
	frames []written
}

// model is a vault as the chapter tells of it, word by word, with all of its disk in memory.
type model struct {
	sectors            int // of an area
	areas              [2]half
	active             int
	begun              bool // the active area is new: nothing of it is written
	life               uint64
	root, commit, last uint64
	pages, moves       int
}

// readHalf reads an area.
func readHalf(t testing.TB, a *frame.Area) half {
	t.Helper()
	h := half{life: a.Life()}
	for _, at := range a.All() {
		kind, b, e := a.Get(at)
		if e != api.OK {
			t.Fatalf("frame's Get: %d", e)
		}
		h.frames = append(h.frames, written{kind, string(b)})
	}
	return h
}

// newModel reads a disk.
func newModel(t testing.TB, d *disk.Disk) *model {
	t.Helper()
	m := &model{sectors: d.Sectors() / 2, active: -1}
	for i, a := range areas(t, d) {
		m.areas[i] = readHalf(t, a)
	}
	for i, h := range m.areas {
		for _, f := range h.frames {
			if f.kind == 82 && (m.active < 0 || m.active == i || h.life > m.areas[m.active].life) {
				r := pack.Read([]byte(f.payload))
				m.active, m.life = i, h.life
				m.commit, m.root, m.last = r.U(), r.U(), r.U()
			}
		}
	}
	if m.active < 0 {
		m.active, m.begun = 0, true
		m.life = 1 + max(m.areas[0].life, m.areas[1].life)
	}
	l, e := tree.Pages(m.shelf(), m.root)
	if e != api.OK {
		t.Fatalf("the model's tree: %d", e)
	}
	m.pages = len(l)
	return m
}

// modelShelf has all pages in memory.
type modelShelf struct {
	pages map[uint64]page.Page
	last  uint64
}

func (s *modelShelf) Page(n uint64) (page.Page, api.Errno) {
	p, ok := s.pages[n]
	if !ok {
		return page.Page{}, api.EFORM
	}
	return p, api.OK
}

func (s *modelShelf) Add(p page.Page) (uint64, api.Errno) {
	s.last++
	s.pages[s.last] = p
	return s.last, api.OK
}

func (m *model) shelf() *modelShelf {
	s := &modelShelf{map[uint64]page.Page{}, m.last}
	for _, f := range m.areas[m.active].frames {
		if f.kind == 80 && !m.begun {
			r := pack.Read([]byte(f.payload))
			n := r.U()
			s.pages[n], _ = page.Decode([]byte(f.payload[len(f.payload)-r.Left():]))
		}
	}
	return s
}

func (m *model) room() int {
	room := m.sectors
	if !m.begun {
		for _, f := range m.areas[m.active].frames {
			room -= frame.Size(len(f.payload))
		}
	}
	return room
}

// frames makes the frames of a commit: pages, numbers on from last's, and a root.
func frames(s *modelShelf, pages []uint64, last, commit, root uint64) (l []written, newRoot, newLast uint64) {
	newLast = last + uint64(len(pages))
	anew := func(n uint64) uint64 {
		if at := slices.Index(pages, n); at >= 0 {
			return last + 1 + uint64(at)
		}
		return n
	}
	for _, n := range pages {
		p := s.pages[n]
		var kids []uint64
		for _, kid := range p.Kids {
			kids = append(kids, anew(kid))
		}
		p.Kids = kids
		l = append(l, written{80, string(append(pack.U(nil, anew(n)), page.Encode(p)...))})
	}
	newRoot = anew(root)
	end := pack.U(pack.U(pack.U(nil, commit), newRoot), newLast)
	return append(l, written{82, string(end)}), newRoot, newLast
}

func haveRoom(sectors int, l []written) bool {
	for _, f := range l {
		size := frame.Size(len(f.payload))
		if size == 0 {
			return false
		}
		sectors -= size
	}
	return sectors >= 0
}

func (m *model) do(l []Change) api.Errno {
	s, root := m.shelf(), m.root
	for _, c := range l {
		n, e := uint64(0), api.OK
		if c.Drop {
			n, e = tree.Drop(s, root, c.Key)
		} else {
			n, e = tree.Put(s, root, c.Key, c.Val)
		}
		if e == api.ENONE {
			n, e = root, api.OK
		}
		if e != api.OK {
			return e
		}
		root = n
	}
	pages, e := tree.Pages(s, root)
	if e != api.OK {
		return e
	}
	if len(pages) > api.MaxPages {
		return api.EFULL
	}
	if root == m.root {
		return api.OK
	}
	fresh := slices.DeleteFunc(slices.Clone(pages), func(n uint64) bool { return n <= m.last })
	slices.Sort(fresh)
	grown, newRoot, newLast := frames(s, fresh, m.last, m.commit+1, root)
	if haveRoom(m.room(), grown) {
		if m.begun {
			m.areas[m.active] = half{life: m.life}
		}
		m.areas[m.active].frames = append(m.areas[m.active].frames, grown...)
	} else {
		grown, newRoot, newLast = frames(s, pages, 0, m.commit+1, root)
		if !haveRoom(m.sectors, grown) {
			return api.EFULL
		}
		m.moves++
		m.life = 1 + max(m.life, m.areas[1-m.active].life)
		m.active = 1 - m.active
		m.areas[m.active] = half{m.life, grown}
	}
	m.begun, m.root, m.last, m.commit, m.pages = false, newRoot, newLast, m.commit+1, len(pages)
	return api.OK
}

func (m *model) status() string {
	return fmt.Sprintf("commits %d, pages %d, moves %d, room %d", m.commit, m.pages, m.moves, m.room())
}

// agree holds a vault and its disk against the model: each frame, byte by byte.
func (m *model) agree(t *testing.T, what string, v *Vault, d *disk.Disk) {
	t.Helper()
	wantStatus(t, what, v, m.status())
	if v.Cached() > api.MaxCached {
		t.Errorf("P8.3: %s: %d cached", what, v.Cached())
	}
	for i, a := range areas(t, d) {
		got, want := readHalf(t, a), m.areas[i]
		if got.life != want.life || !slices.Equal(got.frames, want.frames) {
			t.Fatalf("%s: area %d has life %d and %d frames; want %d and %d: %q, %q", what, i, got.life, len(got.frames), want.life, len(want.frames), got.frames, want.frames)
		}
	}
}

// changer makes changes out of few keys, so that they meet one another.
type changer struct {
	r          *rand.Rand
	keys, long int
	drops      int // of ten
}

func (c changer) key() string {
	n := c.r.Intn(c.keys)
	return fmt.Sprintf("%03d", n) + strings.Repeat("k", n*n%38)
}

func (c changer) changes(most int) []Change {
	var l []Change
	for range c.r.Intn(most + 1) {
		if c.r.Intn(10) < c.drops {
			l = append(l, drop(c.key()))
		} else {
			l = append(l, put(c.key(), strings.Repeat(string(rune('a'+c.r.Intn(26))), c.r.Intn(c.long+1))))
		}
	}
	return l
}

func TestAgainstModel(t *testing.T) {
	for turn := range 24 {
		r := rand.New(rand.NewSource(int64(turn)))
		sectors := []int{32, 33, 64, 100, 256, 700, 1500, 4096}[turn%8]
		c := changer{r, []int{3, 12, 60, 300}[turn%4], []int{5, 60, 400}[turn%3], 2 + turn%5}
		v, d := made(t, sectors)
		m := newModel(t, d)
		items := map[string]string{}
		for step := range 150 {
			l := c.changes([]int{1, 4, 30}[r.Intn(3)])
			what := fmt.Sprintf("P8.1: turn %d, step %d", turn, step)
			e, want := v.Commit(l...), m.do(l)
			if e != want {
				t.Fatalf("%s: Commit: %d; want %d", what, e, want)
			}
			m.agree(t, what, v, d)
			if e == api.OK {
				items = changed(items, l)
			}
			if told(t, v) != showMap(items) {
				t.Fatalf("%s: %q; want %q", what, told(t, v), showMap(items))
			}
			key := c.key()
			if val, e := v.Get(key); val != items[key] || (e == api.ENONE) != (val == "" && !has(items, key)) {
				t.Fatalf("%s: Get(%q): %q, %d", what, key, val, e)
			}
			if r.Intn(20) == 0 {
				if r.Intn(2) == 0 {
					d.On()
				}
				v, m.moves = open(t, d), 0
				m.agree(t, what+", opened", v, d)
			}
		}
	}
}

func has(m map[string]string, key string) bool {
	_, ok := m[key]
	return ok
}
