package vault

import (
	"fmt"
	"math/rand"
	"strings"
	"testing"

	"publican/api"
	"publican/disk"
)

// cutOff does a commit that the power may go at; if it does, the vault is opened anew.
func cutOff(t *testing.T, what string, v *Vault, d *disk.Disk, l []Change) (*Vault, api.Errno) {
	t.Helper()
	ahead := status(v)
	e := v.Commit(l...)
	if e != api.EOFF {
		d.Cut(0, 0)
		return v, e
	}
	wantOff(t, what+": P8.2: one that is done", v)
	if e := v.Commit(); e != api.EOFF {
		t.Errorf("%s: P8.2: Commit of nothing: %d; want error 4", what, e)
	}
	if before, _, _ := strings.Cut(ahead, ", room"); !strings.HasPrefix(status(v), before) {
		t.Errorf("%s: R3: %s; want %s", what, status(v), ahead)
	}
	if v, e := Open(d); v != nil || e != api.EOFF {
		t.Errorf("%s: P8.1: Open without power: %d; want error 4", what, e)
	}
	d.On()
	wantOff(t, what+": P8.2: one of another life", v)
	return open(t, d), api.EOFF
}

// TestEachWrite cuts each write of a row of commits with several moves, in both ways, and goes on behind it.
func TestEachWrite(t *testing.T) {
	var row [][]Change
	r := rand.New(rand.NewSource(8))
	c := changer{r, 8, 90, 3}
	for range 14 {
		row = append(row, c.changes(4))
	}
	play := func(n, how int) bool {
		v, d := made(t, 48)
		d.Cut(n, how)
		items, m, cut := map[string]string{}, newModel(t, d), false
		for step, l := range row {
			what := fmt.Sprintf("P8.4: cut at write %d (%d), step %d", n, how, step)
			e := api.OK
			if cut {
				e = v.Commit(l...)
			} else {
				v, e = cutOff(t, what, v, d, l)
			}
			if e == api.EOFF && !cut {
				cut = true
				// Ahead or behind; it is behind only if the root stands.
				m = newModel(t, d)
				if behind := changed(items, l); told(t, v) == showMap(behind) {
					items = behind
				}
			} else if want := m.do(l); e != want {
				t.Fatalf("%s: Commit: %d; want %d", what, e, want)
			} else if e == api.OK {
				items = changed(items, l)
			}
			m.agree(t, what, v, d)
			if told(t, v) != showMap(items) {
				t.Fatalf("%s: %q; want %q", what, told(t, v), showMap(items))
			}
			if !cut {
				// Later commits meet the Cut with what is left of its count.
				d.Cut(n-d.Writes(), how)
			}
		}
		if !cut && v.Moves() < 2 {
			t.Errorf("the row has %d moves; it should have more", v.Moves())
		}
		return !cut
	}
	for how := range 2 {
		n := 1
		for ; !play(n, how); n++ {
		}
		if n < 40 {
			t.Errorf("the row has only %d writes", n)
		}
	}
}

// Where exactly it is ahead, and where behind: the root's head is the last write.
func TestAheadOrBehind(t *testing.T) {
	for _, moves := range []bool{false, true} {
		for how := -1; how <= 2; how++ {
			for n := 1; ; n++ {
				v, d := made(t, 64)
				commit(t, v, put("a", "1"))
				for moves && v.Room() > 2 {
					commit(t, v, put("a", "1"))
				}
				l := []Change{put("a", "2"), put("b", strings.Repeat("x", 300))}
				writes := d.Writes()
				twin := d.Copy()
				commit(t, open(t, twin), l...)
				all := twin.Writes() - writes
				if n > all {
					break
				}
				d.Cut(n, how)
				w, e := cutOff(t, "P8.4", v, d, l)
				if e != api.EOFF {
					t.Fatalf("P8.2: Commit cut at write %d of %d: %d; want error 4", n, all, e)
				}
				want := "a=1 "
				if n == all && how%2 != 0 {
					want = showMap(map[string]string{"a": "2", "b": l[1].Val})
				}
				if told(t, w) != want {
					t.Errorf("P8.4: cut at write %d of %d (%d), moves %v: %q; want %q", n, all, how, moves, told(t, w), want)
				}
				commit(t, w, l...)
				if told(t, w) != told(t, open(t, twin)) || told(t, open(t, d)) != told(t, w) {
					t.Errorf("P8.4: done again: %q", told(t, w))
				}
			}
		}
	}
}

// TestCutAgainAndAgain lets the power go at most commits, at any write, and opens anew each time.
func TestCutAgainAndAgain(t *testing.T) {
	for turn := range 40 {
		r := rand.New(rand.NewSource(int64(turn)))
		c := changer{r, []int{4, 15, 40}[turn%3], []int{20, 100, 400}[turn%3], 3}
		v, d := made(t, []int{32, 40, 64, 150, 400}[turn%5])
		items, m := map[string]string{}, newModel(t, d)
		for step := range 150 {
			what := fmt.Sprintf("P8.4: turn %d, step %d", turn, step)
			l := c.changes(6)
			if r.Intn(3) > 0 {
				d.Cut(1+r.Intn(30), r.Intn(4)-2)
			}
			w, e := cutOff(t, what, v, d, l)
			v = w
			switch e {
			case api.EOFF:
				m = newModel(t, d)
				if behind := changed(items, l); told(t, v) == showMap(behind) {
					items = behind
				}
			default:
				if want := m.do(l); e != want {
					t.Fatalf("%s: Commit: %d; want %d", what, e, want)
				}
				if e == api.OK {
					items = changed(items, l)
				}
			}
			m.agree(t, what, v, d)
			if told(t, v) != showMap(items) {
				t.Fatalf("%s: %q; want %q", what, told(t, v), showMap(items))
			}
		}
	}
}
