package disk

import (
	"bytes"
	"math"
	"math/rand"
	"testing"

	"publican/api"
)

func TestExample(t *testing.T) {
	d := made(t, 2)
	d.Cut(1, 0)
	if e := d.Write(0, []byte{1, 2}); e != api.EOFF {
		t.Errorf("P4.2: Write at the cut: %d; want 4", e)
	}
	d.On()
	holds(t, "P4.2: behind On", d, 0, sectorOf())
}

// writeTill writes till the power goes, and tells how many writes it took.
func writeTill(d *Disk, most int) int {
	for i := 1; i <= most; i++ {
		if d.Write(0, []byte{byte(i)}) != api.OK {
			return i
		}
	}
	return 0
}

func TestWhichWriteIsCut(t *testing.T) {
	for n := -3; n < 40; n++ {
		d := made(t, 1)
		d.Write(0, nil)
		d.Cut(n, 0)
		if got, want := writeTill(d, 50), max(n, 0); got != want {
			t.Errorf("P4.2: Cut(%d): write %d is cut; want %d", n, got, want)
		}
		if d.Power() != (n < 1) {
			t.Errorf("P4.2: Cut(%d): power %v", n, d.Power())
		}
		if want := 1 + 50; n < 1 && d.Writes() != want {
			t.Errorf("P4.1: Cut(%d): %d writes; want %d", n, d.Writes(), want)
		}
		if n > 0 && d.Writes() != n {
			t.Errorf("P4.1: Cut(%d): %d writes; want %d, the one that was cut not among them", n, d.Writes(), n)
		}
	}
	for _, n := range []int{51, 1 << 32, math.MaxInt, math.MinInt} {
		d := made(t, 1)
		d.Cut(n, 1)
		if got := writeTill(d, 50); got != 0 {
			t.Errorf("P4.2: Cut(%d): write %d is cut", n, got)
		}
	}
}

func TestWhatTheCutLeaves(t *testing.T) {
	old, young := bytes.Repeat([]byte{5}, 64), []byte{1, 2, 3}
	for _, how := range []int{0, 2, -2, 1 << 40, math.MinInt, math.MaxInt - 1, 1, 3, -1, -3, 1<<40 + 1, math.MaxInt, math.MinInt + 1} {
		d := made(t, 3)
		d.Write(1, old)
		d.Cut(1, how)
		if e := d.Write(1, young); e != api.EOFF || d.Power() || d.Writes() != 1 || d.Lives() != 1 {
			t.Errorf("P4.2: Cut(1, %d): %d, power %v, %d writes, %d lives", how, e, d.Power(), d.Writes(), d.Lives())
		}
		d.On()
		want := old
		if how%2 != 0 {
			want = sectorOf(young...)
		}
		holds(t, "P4.2: the sector that was cut", d, 1, want)
		holds(t, "P4.2: the sector ahead of it", d, 0, sectorOf())
		holds(t, "P4.2: the sector behind it", d, 2, sectorOf())
	}
}

func TestWithoutPower(t *testing.T) {
	d := made(t, 2)
	d.Write(1, []byte{6})
	d.Cut(1, 0)
	d.Write(0, nil)
	for range 3 {
		if e := d.Write(1, []byte{7}); e != api.EOFF {
			t.Errorf("P4.1: Write without power: %d; want 4", e)
		}
		if b, e := d.Read(1); len(b) != 0 || e != api.EOFF {
			t.Errorf("P4.1: Read without power: %v, %d; want 4", b, e)
		}
	}
	if d.Sectors() != 2 || d.Power() || d.Writes() != 1 || d.Lives() != 1 {
		t.Errorf("P4.1: without power: %d sectors, power %v, %d writes, %d lives", d.Sectors(), d.Power(), d.Writes(), d.Lives())
	}
	d.On()
	if d.Sectors() != 2 || !d.Power() || d.Writes() != 1 || d.Lives() != 2 {
		t.Errorf("P4.2: behind On: %d sectors, power %v, %d writes, %d lives", d.Sectors(), d.Power(), d.Writes(), d.Lives())
	}
	holds(t, "P4.1: what was written without power", d, 1, sectorOf(6))
}

func TestWhatCounts(t *testing.T) {
	d := made(t, 3)
	d.Cut(2, 0)
	for _, w := range wrongWrites {
		d.Write(w.sector, make([]byte, w.bytes))
		d.Read(0)
	}
	if got := writeTill(d, 5); got != 2 {
		t.Errorf("P4.2: Cut(2), and writes that are EARG: write %d is cut", got)
	}
}

func TestTheLastCutHolds(t *testing.T) {
	for _, c := range []struct{ first, ahead, last, want int }{
		{1, 0, 3, 3}, {3, 0, 1, 1}, {5, 2, 2, 2}, {2, 1, 2, 2}, {2, 1, 0, 0}, {1, 0, -1, 0}, {4, 3, math.MinInt, 0}, {math.MaxInt, 4, 1, 1},
	} {
		d := made(t, 1)
		d.Cut(c.first, 0)
		writeTill(d, c.ahead)
		d.Cut(c.last, 1)
		if got := writeTill(d, 10); got != c.want {
			t.Errorf("P4.2: Cut(%d), %d writes, Cut(%d): write %d is cut; want %d", c.first, c.ahead, c.last, got, c.want)
		}
	}
	d := made(t, 1)
	d.Cut(1, 1)
	d.Cut(1, 0)
	d.Write(0, []byte{1})
	d.On()
	holds(t, "P4.2: the how of the last Cut", d, 0, sectorOf())
}

func TestOn(t *testing.T) {
	d := made(t, 1)
	d.Cut(1, 1)
	d.On()
	if d.Lives() != 2 || !d.Power() {
		t.Errorf("P4.2: On with power: %d lives, power %v", d.Lives(), d.Power())
	}
	if got := writeTill(d, 5); got != 0 {
		t.Errorf("P4.2: a Cut waits behind On: write %d is cut", got)
	}
	d.Cut(1, 0)
	d.Write(0, nil)
	d.Cut(2, 0)
	d.On()
	if got := writeTill(d, 5); got != 0 || d.Lives() != 3 {
		t.Errorf("P4.2: a Cut made without power waits behind On: write %d is cut, %d lives", got, d.Lives())
	}
	for range 100 {
		d.On()
	}
	if d.Lives() != 103 || d.Writes() != 10 {
		t.Errorf("P4.2: On a hundred times: %d lives, %d writes", d.Lives(), d.Writes())
	}
}

func TestCopy(t *testing.T) {
	d := made(t, 3)
	d.On()
	d.Write(2, []byte{1})
	d.Cut(2, 1)
	c := d.Copy()
	if c == d || c.Sectors() != 3 || !c.Power() || c.Writes() != 1 || c.Lives() != 2 {
		t.Errorf("P4.2: Copy: %d sectors, power %v, %d writes, %d lives", c.Sectors(), c.Power(), c.Writes(), c.Lives())
	}
	holds(t, "P4.2: Copy", c, 2, sectorOf(1))
	c.Write(0, []byte{2})
	if e := c.Write(1, []byte{3}); e != api.EOFF || c.Power() || !d.Power() {
		t.Errorf("P4.2: a copy has its Cut: %d", e)
	}
	holds(t, "P4.2: a write to the copy", d, 0, sectorOf())
	if off := c.Copy(); off.Power() || off.Lives() != 2 || off.Writes() != 2 {
		t.Errorf("P4.2: a copy without power: power %v, %d lives, %d writes", off.Power(), off.Lives(), off.Writes())
	}
	c.On()
	holds(t, "P4.2: the copy's Cut has its how", c, 1, sectorOf(3))
	if got := writeTill(d, 5); got != 2 {
		t.Errorf("P4.2: the writes to a copy count for the first one's Cut: write %d is cut", got)
	}
	if c.Lives() != 3 || d.Lives() != 2 || c.Writes() != 2 || d.Writes() != 2 {
		t.Errorf("P4.2: a copy shares its numbers: %d, %d lives, %d, %d writes", c.Lives(), d.Lives(), c.Writes(), d.Writes())
	}
	holds(t, "P4.2: a write to the first one", c, 0, sectorOf(2))
}

// told is all that a disk was told, from which each answer can be worked out anew.
type told struct {
	sectors int
	steps   []step
}

type step struct {
	do     string
	at, by int
	b      []byte
}

// state is what the document's sentences say of a disk behind its steps.
type state struct {
	content         map[int][]byte
	writes, lives   int
	off, waits, odd bool
	left            int
	last            api.Errno
}

// play goes through the steps from the first one on.
func (w *told) play() state {
	s := state{content: map[int][]byte{}, lives: 1}
	for _, p := range w.steps {
		switch p.do {
		case "on":
			s.off, s.waits, s.lives = false, false, s.lives+1
		case "cut":
			s.waits, s.left, s.odd = p.at > 0, p.at, p.by%2 != 0
		case "write":
			s.last = s.write(w.sectors, p)
		}
	}
	return s
}

func (s *state) write(sectors int, p step) api.Errno {
	switch {
	case p.at < 0 || p.at >= sectors || len(p.b) > 64:
		return api.EARG
	case s.off:
		return api.EOFF
	case s.waits && s.left == 1:
		s.off, s.waits = true, false
		if s.odd {
			s.content[p.at] = p.b
		}
		return api.EOFF
	}
	s.left--
	s.writes++
	s.content[p.at] = p.b
	return api.OK
}

func TestLongLives(t *testing.T) {
	for seed := range 60 {
		r := rand.New(rand.NewSource(int64(seed)))
		w := told{sectors: 1 + r.Intn(5)}
		d := made(t, w.sectors)
		for range 150 {
			p := step{do: "write", at: r.Intn(w.sectors+2) - 1, by: r.Intn(7) - 3, b: bytes.Repeat([]byte{byte(r.Intn(256))}, r.Intn(67))}
			switch r.Intn(10) {
			case 0:
				p.do = "on"
			case 1:
				p.do = "cut"
				p.at = r.Intn(9) - 1
			}
			w.steps = append(w.steps, p)
			if r.Intn(8) == 0 {
				d = d.Copy()
			}
			follow(t, d, p, w.play(), w.sectors)
		}
		if t.Failed() {
			t.Fatalf("seed %d, steps %v", seed, w.steps)
		}
	}
}

// follow does a step on the disk and holds all that can be asked against what it should be.
func follow(t *testing.T, d *Disk, p step, want state, sectors int) {
	t.Helper()
	switch p.do {
	case "on":
		d.On()
	case "cut":
		d.Cut(p.at, p.by)
	case "write":
		if e := d.Write(p.at, p.b); e != want.last {
			t.Errorf("P4.2: Write(%d, %d bytes): %d; want %d", p.at, len(p.b), e, want.last)
		}
	}
	if d.Power() == want.off || d.Lives() != want.lives || d.Writes() != want.writes || d.Sectors() != sectors {
		t.Errorf("P4.2: behind %s: power %v, %d lives, %d writes, %d sectors; want %+v", p.do, d.Power(), d.Lives(), d.Writes(), d.Sectors(), want)
	}
	for s := range sectors {
		b, e := d.Read(s)
		if want.off && (e != api.EOFF || len(b) != 0) {
			t.Errorf("P4.1: Read(%d) without power: %v, %d", s, b, e)
		}
		if !want.off && (e != api.OK || !bytes.Equal(b, sectorOf(want.content[s]...))) {
			t.Errorf("P4.2: Read(%d): %v, %d; want %v", s, b, e, want.content[s])
		}
	}
}
