package vault

import (
	"fmt"
	"maps"
	"slices"
	"strings"
	"testing"

	"publican/api"
	"publican/disk"
	"publican/frame"
	"publican/tree"
)

func put(key, val string) Change { return Change{Key: key, Val: val} }

func drop(key string) Change { return Change{Key: key, Drop: true} }

func newDisk(t testing.TB, sectors int) *disk.Disk {
	t.Helper()
	d, e := disk.New(sectors)
	if e != api.OK {
		t.Fatalf("New(%d): %d", sectors, e)
	}
	return d
}

func open(t testing.TB, d *disk.Disk) *Vault {
	t.Helper()
	v, e := Open(d)
	if v == nil || e != api.OK {
		t.Fatalf("P8.1: Open: %d", e)
	}
	return v
}

func made(t testing.TB, sectors int) (*Vault, *disk.Disk) {
	t.Helper()
	d := newDisk(t, sectors)
	return open(t, d), d
}

func commit(t testing.TB, v *Vault, l ...Change) {
	t.Helper()
	if e := v.Commit(l...); e != api.OK {
		t.Fatalf("P8.1: Commit of %d changes: %d", len(l), e)
	}
}

// told tells a vault's map.
func told(t testing.TB, v *Vault) string {
	t.Helper()
	l, e := v.Range("", "", 1<<30)
	if e != api.OK {
		t.Fatalf("P8.3: Range: %d", e)
	}
	return show(l)
}

func show(l []tree.Item) string {
	var b strings.Builder
	for _, x := range l {
		fmt.Fprintf(&b, "%s=%s ", x.Key, x.Val)
	}
	return b.String()
}

func showMap(m map[string]string) string {
	var l []tree.Item
	for _, key := range slices.Sorted(maps.Keys(m)) {
		l = append(l, tree.Item{Key: key, Val: m[key]})
	}
	return show(l)
}

// changed does changes on a map, and answers another one.
func changed(m map[string]string, l []Change) map[string]string {
	o := maps.Clone(m)
	for _, c := range l {
		if c.Drop {
			delete(o, c.Key)
		} else {
			o[c.Key] = c.Val
		}
	}
	return o
}

// dump tells all of a disk's sectors.
func dump(t testing.TB, d *disk.Disk) string {
	t.Helper()
	d = d.Copy()
	d.On()
	var b strings.Builder
	for i := range d.Sectors() {
		s, e := d.Read(i)
		if e != api.OK {
			t.Fatalf("Read(%d): %d", i, e)
		}
		b.Write(s)
	}
	return b.String()
}

// powerOff lets the power go by a write that is not the vault's, and changes no sector.
func powerOff(t testing.TB, d *disk.Disk) {
	t.Helper()
	d.Cut(1, 0)
	if e := d.Write(0, nil); e != api.EOFF {
		t.Fatalf("a Write that is cut off: %d", e)
	}
}

// status tells a vault's numbers.
func status(v *Vault) string {
	return fmt.Sprintf("commits %d, pages %d, moves %d, room %d", v.Commits(), v.Pages(), v.Moves(), v.Room())
}

func wantStatus(t *testing.T, what string, v *Vault, want string) {
	t.Helper()
	if got := status(v); got != want {
		t.Errorf("%s: %s; want %s", what, got, want)
	}
}

func TestExample(t *testing.T) {
	v, d := made(t, 64)
	commit(t, v, put("a", "1"))
	v = open(t, d)
	if val, e := v.Get("a"); val != "1" || e != api.OK || v.Commits() != 1 {
		t.Errorf("P8.1: opened behind Commit(a: 1): Get %q, %d; Commits %d", val, e, v.Commits())
	}
}

func TestOpen(t *testing.T) {
	for _, sectors := range []int{1, 2, 30, 31} {
		d := newDisk(t, sectors)
		for range 2 {
			if v, e := Open(d); v != nil || e != api.EARG {
				t.Errorf("P8.1: Open of %d sectors: %d; want error 1", sectors, e)
			}
			powerOff(t, d) // EARG is named first
		}
	}
	for _, sectors := range []int{32, 33, 64, 65, 4095, 4096} {
		v, d := made(t, sectors)
		wantStatus(t, "P8.1: a new one", v, fmt.Sprintf("commits 0, pages 0, moves 0, room %d", sectors/2))
		if v.Cached() != 0 || told(t, v) != "" || d.Writes() != 0 {
			t.Errorf("P8.1: a new one: %d cached, %q, %d writes", v.Cached(), told(t, v), d.Writes())
		}
		powerOff(t, d)
		if v, e := Open(d); v != nil || e != api.EOFF {
			t.Errorf("P8.1: Open without power: %d; want error 4", e)
		}
	}
}

func TestCommit(t *testing.T) {
	v, d := made(t, 64)
	for i, c := range []struct {
		l      []Change
		want   string
		status string
	}{
		{nil, "", "commits 0, pages 0, moves 0, room 32"},
		{[]Change{drop("a")}, "", "commits 0, pages 0, moves 0, room 32"},
		{[]Change{put("a", "1"), drop("a")}, "", "commits 0, pages 0, moves 0, room 32"},
		{[]Change{put("b", "2"), put("a", "1")}, "a=1 b=2 ", "commits 1, pages 1, moves 0, room 30"},
		{[]Change{}, "a=1 b=2 ", "commits 1, pages 1, moves 0, room 30"},
		{[]Change{drop("c"), drop("A")}, "a=1 b=2 ", "commits 1, pages 1, moves 0, room 30"},
		// As it was, and still new pages: another root.
		{[]Change{put("a", "1")}, "a=1 b=2 ", "commits 2, pages 1, moves 0, room 28"},
		{[]Change{put("a", "3"), put("a", ""), drop("b"), drop("b")}, "a= ", "commits 3, pages 1, moves 0, room 26"},
		{[]Change{put("c", strings.Repeat("v", 100)), drop("a")}, "c=" + strings.Repeat("v", 100) + " ", "commits 4, pages 1, moves 0, room 23"},
		{[]Change{drop("c")}, "", "commits 5, pages 0, moves 0, room 22"},
		{[]Change{drop("c")}, "", "commits 5, pages 0, moves 0, room 22"},
		{[]Change{put("c", "1"), drop("c"), put("c", "2")}, "c=2 ", "commits 6, pages 1, moves 0, room 20"},
	} {
		commit(t, v, c.l...)
		wantStatus(t, fmt.Sprintf("P8.1: behind Commit %d", i), v, c.status)
		o := open(t, d)
		wantStatus(t, fmt.Sprintf("P8.4: opened behind Commit %d", i), o, c.status)
		if told(t, v) != c.want || told(t, o) != c.want {
			t.Errorf("P8.1: Commit %d: %q, opened %q; want %q", i, told(t, v), told(t, o), c.want)
		}
	}
}

func TestCommitArguments(t *testing.T) {
	key, val := strings.Repeat("k", api.MaxKey), strings.Repeat("v", api.MaxVal)
	v, d := made(t, 64)
	commit(t, v, put("a", "1"))
	was, ahead := dump(t, d), status(v)
	wrong := []Change{put("", "1"), put("", ""), put(key+"k", "1"), put("b", val+"v"), put(key, val+"v"), drop(""), drop(key + "k"), drop(strings.Repeat("k", 99999)), {Key: "a", Val: val + "v", Drop: true}, {}}
	for _, off := range []func(){func() {}, func() { powerOff(t, d) }, func() { d.On() }} {
		off()
		for i, c := range wrong {
			for _, l := range [][]Change{{c}, {put("b", "2"), c}, {c, drop("a")}, {drop("a"), c, put("b", "2")}} {
				if e := v.Commit(l...); e != api.EARG {
					t.Errorf("P8.1: Commit with the wrong change %d: %d; want error 1", i, e)
				}
			}
		}
		if dump(t, d) != was || status(v) != ahead {
			t.Fatalf("R3: a Commit that is refused changes something")
		}
	}
	v = open(t, d)
	commit(t, v, put(key, val), put(key[1:], ""), put("b", val), put("\x00", "\xff"), drop("\xff"), Change{Key: "a", Val: val, Drop: true})
	if want := showMap(map[string]string{key: val, key[1:]: "", "b": val, "\x00": "\xff"}); told(t, v) != want || told(t, open(t, d)) != want {
		t.Errorf("P8.1: changes at the limits: %q", told(t, v))
	}
}

func TestGetAndRange(t *testing.T) {
	v, _ := made(t, 64)
	if val, e := v.Get("a"); val != "" || e != api.ENONE {
		t.Errorf("P8.3: Get from a new one: %q, %d; want error 5", val, e)
	}
	commit(t, v, put("a", "1"), put("c", ""), put("e", "3"))
	for key, want := range map[string]string{"a": "1 0", "c": " 0", "e": "3 0", "": " 5", "b": " 5", "f": " 5", strings.Repeat("k", 41): " 5"} {
		val, e := v.Get(key)
		if got := fmt.Sprint(val, " ", int(e)); got != want {
			t.Errorf("P8.3: Get(%q): %s; want %s", key, got, want)
		}
	}
	for _, c := range []struct {
		from, to string
		most     int
		want     string
	}{
		{"", "", 9, "a=1 c= e=3 "}, {"", "", 2, "a=1 c= "}, {"", "", 0, ""}, {"", "", -1, ""}, {"b", "", 9, "c= e=3 "}, {"a", "e", 9, "a=1 c= "}, {"a", "a", 9, ""}, {"e", "a", 9, ""}, {"f", "", 9, ""},
	} {
		if l, e := v.Range(c.from, c.to, c.most); show(l) != c.want || e != api.OK {
			t.Errorf("P8.3: Range(%q, %q, %d): %q, %d; want %q", c.from, c.to, c.most, show(l), e, c.want)
		}
	}
}

func TestMemory(t *testing.T) {
	v, _ := made(t, 64)
	room := []Change{put("a", "1"), put("b", "2"), put("spare", "room"), put("spare", "too")}
	was := slices.Clone(room)
	commit(t, v, room[:2]...)
	if !slices.Equal(room, was) {
		t.Errorf("R4: Commit changes what is handed in: %v", room)
	}
	room[0], room[1] = put("x", "y"), drop("a")
	if told(t, v) != "a=1 b=2 " {
		t.Errorf("R4: what was handed in is kept: %q", told(t, v))
	}
	l, _ := v.Range("", "", 9)
	for i := range l[:cap(l)] {
		l[:cap(l)][i] = tree.Item{Key: "spoilt", Val: "spoilt"}
	}
	if told(t, v) != "a=1 b=2 " {
		t.Errorf("R4: an answer is no new memory: %q", told(t, v))
	}
}

// wantOff looks whether each call answers EOFF and nothing else.
func wantOff(t *testing.T, what string, v *Vault) {
	t.Helper()
	if val, e := v.Get("a"); val != "" || e != api.EOFF {
		t.Errorf("%s: Get: %q, %d; want error 4", what, val, e)
	}
	for _, most := range []int{9, 0, -1} {
		if l, e := v.Range("", "", most); len(l) != 0 || e != api.EOFF {
			t.Errorf("%s: Range: %v, %d; want error 4", what, l, e)
		}
	}
	for _, l := range [][]Change{{put("a", "2")}, {put("b", "2")}, {drop("a")}} {
		if e := v.Commit(l...); e != api.EOFF {
			t.Errorf("%s: Commit: %d; want error 4", what, e)
		}
	}
}

func TestWithoutPower(t *testing.T) {
	for _, l := range [][]Change{{}, {put("a", "1")}, {put("a", "1"), put("b", "2")}} {
		for _, asked := range []bool{false, true} {
			v, d := made(t, 64)
			commit(t, v, l...)
			was, ahead := told(t, open(t, d.Copy())), status(v)
			if asked {
				// What is in memory now may not be told without power.
				told(t, v)
			}
			powerOff(t, d)
			wantOff(t, "P8.3: without power", v)
			d.On()
			wantOff(t, "P8.3: in another life", v)
			wantStatus(t, "P8.3: in another life", v, ahead)
			if told(t, open(t, d)) != was {
				t.Errorf("P8.4: opened: %q; want %q", told(t, open(t, d)), was)
			}
		}
	}
}

// Lives counts, not the power alone: a vault may miss that it went.
func TestAnotherLife(t *testing.T) {
	v, d := made(t, 64)
	commit(t, v, put("a", "1"))
	was := dump(t, d)
	d.On()
	wantOff(t, "P8.3: in another life", v)
	if e := v.Commit(); e != api.EOFF {
		t.Errorf("P8.1: Commit of nothing in another life: %d; want error 4", e)
	}
	if e := v.Commit(drop("z")); e != api.EOFF {
		t.Errorf("P8.1: Commit of nothing in another life: %d; want error 4", e)
	}
	if dump(t, d) != was {
		t.Errorf("P8.1: a vault of another life writes")
	}
	if v := open(t, d); told(t, v) != "a=1 " {
		t.Errorf("P8.4: opened: %q", told(t, v))
	}
}

// An empty commit asks nothing of the disk; a vault that met an error of it is done all the same.
func TestEmptyCommitWithoutPower(t *testing.T) {
	v, d := made(t, 64)
	commit(t, v, put("a", "1"))
	told(t, v)
	powerOff(t, d)
	if e := v.Commit(); e != api.OK {
		t.Errorf("P8.1: Commit of nothing, whose root is the one ahead: %d", e)
	}
	// What is in memory may not tell what can't be read.
	if e := v.Commit(drop("z")); e != api.EOFF {
		t.Errorf("P8.2: Commit that would read: %d; want error 4", e)
	}
	if e := v.Commit(); e != api.EOFF {
		t.Errorf("P8.2: Commit of one that is done: %d; want error 4", e)
	}
}

// areas opens a disk's halves.
func areas(t testing.TB, d *disk.Disk) [2]*frame.Area {
	t.Helper()
	half := d.Sectors() / 2
	one, e := frame.Open(d, 0, half)
	two, f := frame.Open(d, half, half)
	if e != api.OK || f != api.OK {
		t.Fatalf("frame's Open: %d, %d", e, f)
	}
	return [2]*frame.Area{one, two}
}
