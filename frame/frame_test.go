package frame

import (
	"bytes"
	"encoding/binary"
	"hash/crc32"
	"math"
	"slices"
	"testing"

	"publican/api"
	"publican/disk"
)

// wantFrames looks whether an area has just these frames, and answers so.
func wantFrames(t *testing.T, told string, a *Area, life uint64, room int, l []piece) {
	t.Helper()
	var starts []int
	for _, p := range l {
		starts = append(starts, p.at)
	}
	if a.Life() != life || a.Room() != room || !slices.Equal(a.All(), starts) {
		t.Fatalf("%s: life %d, room %d, frames at %v; want %d, %d, %v", told, a.Life(), a.Room(), a.All(), life, room, starts)
	}
	for _, p := range l {
		kind, b, e := a.Get(p.at)
		if kind != p.kind || !bytes.Equal(b, p.payload) || e != api.OK {
			t.Fatalf("%s: Get(%d): %d, %d bytes, %d; want %d, %d bytes", told, p.at, kind, len(b), e, p.kind, len(p.payload))
		}
	}
}

// refused looks whether Get answers an error and nothing else.
func refused(t *testing.T, told string, a *Area, at int, want api.Errno) {
	t.Helper()
	if kind, b, e := a.Get(at); kind != 0 || len(b) != 0 || e != want {
		t.Errorf("%s: Get(%d): %d, %v, %d; want error %d", told, at, kind, b, e, want)
	}
}

func TestNoughts(t *testing.T) {
	d := made(t, 7)
	for first := range 7 {
		for sectors := 1; first+sectors <= 7; sectors++ {
			a := opened(t, d, first, sectors)
			wantFrames(t, "P5.1: noughts", a, 0, sectors, nil)
			refused(t, "P5.2: noughts", a, 0, api.ENONE)
		}
	}
	if d.Writes() != 0 {
		t.Errorf("P5.1: Open writes")
	}
}

func TestOpenRefuses(t *testing.T) {
	d := made(t, 6)
	wrong := [][2]int{{-1, 1}, {-1, 7}, {0, 0}, {0, -1}, {0, 7}, {1, 6}, {5, 2}, {6, 1}, {7, 1}, {3, math.MaxInt}, {math.MaxInt, 1}, {math.MaxInt, math.MaxInt}, {math.MinInt, 3}, {0, math.MinInt}, {math.MinInt, math.MinInt}, {math.MaxInt, math.MinInt}, {-3, 5}, {math.MinInt, math.MaxInt}}
	for _, off := range []bool{false, true} {
		if off {
			d.Cut(1, 0)
			d.Write(0, nil)
		}
		for _, c := range wrong {
			if a, e := Open(d, c[0], c[1]); a != nil || e != api.EARG {
				t.Errorf("P5.1: Open(%d, %d), off %v: %v, %d; want error 1", c[0], c[1], off, a, e)
			}
		}
	}
	for _, c := range [][2]int{{0, 6}, {5, 1}, {0, 1}} {
		if a, e := Open(d, c[0], c[1]); a != nil || e != api.EOFF {
			t.Errorf("P5.1: Open(%d, %d) without power: %v, %d; want error 4", c[0], c[1], a, e)
		}
	}
	d.On()
	for _, c := range [][2]int{{0, 6}, {5, 1}, {0, 1}} {
		opened(t, d, c[0], c[1])
	}
}

func TestAddAndGet(t *testing.T) {
	for _, life := range []uint64{0, 1, 255, 256, 1 << 32, 1 << 63, math.MaxUint64} {
		d := made(t, 300)
		a := opened(t, d, 20, 270)
		a.Begin(life)
		var l []piece
		room, at := 270, 0
		for i, n := range []int{0, 1, 43, 44, 45, 106, 107, 108, 500, 999, 1000, 0, 1000} {
			p := piece{at: at, kind: byte(i * 21), payload: filled(n, i)}
			if got := added(t, a, p.kind, p.payload); got != at {
				t.Fatalf("P5.2: Add of %d bytes: at %d; want %d", n, got, at)
			}
			l = append(l, p)
			size := len(sectorsOf(p))
			at, room = at+size, room-size
			wantFrames(t, "P5.2: behind Add", a, life, room, l)
			wantFrames(t, "P5.1: opened anew", opened(t, d, 20, 270), life, room, l)
		}
		for _, p := range []int{-1, at, at - 1, 3, 269, 270, 1 << 32, math.MaxInt, math.MinInt} {
			if !slices.Contains(a.All(), p) {
				refused(t, "P5.2: where none begins", a, p, api.ENONE)
			}
		}
	}
}

func TestKindsAndManyNumbers(t *testing.T) {
	d := made(t, api.MaxSectors)
	a := opened(t, d, 0, api.MaxSectors)
	a.Begin(77)
	var l []piece
	for i := range api.MaxSectors {
		p := piece{at: i, kind: byte(i), payload: filled(i%45, i)}
		if got := added(t, a, p.kind, p.payload); got != i {
			t.Fatalf("P5.2: Add of number %d: at %d", i, got)
		}
		l = append(l, p)
	}
	wantFrames(t, "P5.2: a disk full of frames", a, 77, 0, l)
	wantFrames(t, "P5.1: a disk full of frames", opened(t, d, 0, api.MaxSectors), 77, 0, l)
	wantFrames(t, "P5.1: part of them", opened(t, d, 0, 1000), 77, 0, l[:1000])
	wantFrames(t, "P5.1: from another sector on", opened(t, d, 1, 1000), 0, 1000, nil)
}

func TestAddRefuses(t *testing.T) {
	d := made(t, 30)
	a := opened(t, d, 0, 20)
	a.Begin(2)
	first := piece{at: 0, kind: 8, payload: filled(1000, 1)}
	added(t, a, first.kind, first.payload)
	writes := d.Writes()
	want := func(told string, n int, e api.Errno) {
		t.Helper()
		if at, got := a.Add(3, make([]byte, n)); at != 0 || got != e {
			t.Errorf("P5.2: %s: Add of %d bytes: %d, %d; want error %d", told, n, at, got, e)
		}
		if d.Writes() != writes || a.Room() != 3 || len(a.All()) != 1 || a.Life() != 2 {
			t.Errorf("R3: %s: behind a refused Add: %d writes, room %d, frames at %v", told, d.Writes()-writes, a.Room(), a.All())
		}
	}
	want("too many bytes", 1001, api.ELIMIT)
	want("too many bytes", 70000, api.ELIMIT)
	want("no room", 1000, api.EFULL)
	want("no room by one byte", 44+63+63+1, api.EFULL)
	wantFrames(t, "R3: behind refused ones", a, 2, 3, []piece{first})
	d.Cut(1, 0)
	d.Write(25, nil)
	want("too many bytes, without power", 1001, api.ELIMIT)
	want("no room, without power", 171, api.EFULL)
	want("without power", 170, api.EOFF)
	d.On()
	want("too many bytes, of an elder life", 1001, api.ELIMIT)
	want("no room, of an elder life", 171, api.EOFF)
	want("of an elder life", 170, api.EOFF)
	want("of an elder life", 0, api.EOFF)
	wantFrames(t, "R3: opened behind refused ones", opened(t, d, 0, 20), 2, 3, []piece{first})
	b := opened(t, d, 0, 20)
	added(t, b, 1, make([]byte, 170))
	if at, e := b.Add(1, nil); at != 0 || e != api.EFULL || b.Room() != 0 {
		t.Errorf("P5.2: Add where no sector is left: %d, %d, room %d", at, e, b.Room())
	}
}

func TestGetRefuses(t *testing.T) {
	d := made(t, 12)
	a := opened(t, d, 1, 10)
	a.Begin(6)
	l := []piece{{at: 0, kind: 1, payload: filled(200, 1)}, {at: 4, kind: 2, payload: filled(3, 2)}}
	for _, p := range l {
		added(t, a, p.kind, p.payload)
	}
	d.Cut(1, 0)
	d.Write(11, nil)
	refused(t, "P5.2: without power", a, 0, api.EOFF)
	refused(t, "P5.2: without power, where none begins", a, 1, api.ENONE)
	d.On()
	refused(t, "P5.2: of an elder life", a, 4, api.EOFF)
	refused(t, "P5.2: of an elder life, where none begins", a, 5, api.ENONE)
	if a.Life() != 6 || a.Room() != 5 || !slices.Equal(a.All(), []int{0, 4}) {
		t.Errorf("P5.2: what needs no disk, of an elder life: %d, %d, %v", a.Life(), a.Room(), a.All())
	}
	a.Begin(9)
	if a.Life() != 9 || a.Room() != 10 || len(a.All()) != 0 {
		t.Errorf("P5.2: Begin of an elder life: %d, %d, %v", a.Life(), a.Room(), a.All())
	}
	if at, e := a.Add(1, nil); at != 0 || e != api.EOFF {
		t.Errorf("P5.2: Begin brings an area of an elder life back: %d, %d", at, e)
	}
	refused(t, "P5.2: begun anew, of an elder life", a, 0, api.ENONE)
	wantFrames(t, "P5.1: opened in the next life", opened(t, d, 1, 10), 6, 5, l)
}

// standing makes an area of three frames, the second one of four sectors.
func standing(t *testing.T) (*disk.Disk, *Area, []piece) {
	t.Helper()
	d := made(t, 20)
	a := opened(t, d, 3, 9)
	a.Begin(1 << 40)
	l := []piece{{kind: 5, payload: filled(60, 1)}, {kind: 6, payload: filled(200, 2)}, {kind: 7, payload: filled(20, 3)}}
	for i := range l {
		l[i].life, l[i].number = 1<<40, uint32(i)
		l[i].at = added(t, a, l[i].kind, l[i].payload)
	}
	return d, a, l
}

func TestAnyByteThatChanges(t *testing.T) {
	for s := 2; s < 6; s++ {
		for i := range 64 {
			// The head and two more sectors have 170 of the 200 bytes, the last one has 30: the noughts behind them count for nothing.
			spare := s == 5 && i > 30
			for _, flip := range []byte{1, 128} {
				d, a, l := standing(t)
				b := sector(t, d, 3+s)
				b[i] ^= flip
				d.Write(3+s, b)
				if spare {
					wantFrames(t, "P5.2: behind the payload", a, 1<<40, 2, l)
					wantFrames(t, "P5.1: behind the payload", opened(t, d, 3, 9), 1<<40, 2, l)
					continue
				}
				refused(t, "P5.2: a byte that changed", a, 2, api.EFORM)
				refused(t, "P5.2: inside a frame", a, 3, api.ENONE)
				wantFrames(t, "P5.1: a byte that changed", opened(t, d, 3, 9), 1<<40, 7, l[:1])
				if !slices.Equal(a.All(), []int{0, 2, 6}) || a.Room() != 2 {
					t.Errorf("R3: a Get that is refused changes the area: %v", a.All())
				}
			}
		}
	}
}

func TestWhatStandsThere(t *testing.T) {
	d, a, l := standing(t)
	for told, p := range map[string]piece{
		"another life":     {kind: 6, life: 1<<40 + 1, number: 1, payload: filled(200, 2)},
		"a life cut short": {kind: 6, life: 0, number: 1, payload: filled(200, 2)},
		"number 0":         {kind: 6, life: 1 << 40, number: 0, payload: filled(200, 2)},
		"the next number":  {kind: 6, life: 1 << 40, number: 2, payload: filled(200, 2)},
		"a great number":   {kind: 6, life: 1 << 40, number: 1<<31 + 1, payload: filled(200, 2)},
		"past the area":    {kind: 6, life: 1 << 40, number: 1, payload: filled(44+6*63+1, 2)},
		"too many bytes":   {kind: 6, life: 1 << 40, number: 1, payload: filled(1001, 2)},
	} {
		c := d.Copy()
		b := opened(t, c, 3, 9)
		wide := opened(t, c, 3, 17)
		lay(t, c, 5, sectorsOf(p)[:min(len(sectorsOf(p)), 15)])
		refused(t, "P5.2: "+told, b, 2, api.EFORM)
		wantFrames(t, "P5.1: "+told, opened(t, c, 3, 9), 1<<40, 7, l[:1])
		if kind, _, e := wide.Get(2); told == "past the area" && (kind != 6 || e != api.OK) {
			t.Errorf("P5.2: %s, but in a greater one: %d, %d", told, kind, e)
		}
	}
	other := piece{at: 2, kind: 200, life: 1 << 40, number: 1, payload: filled(44+6*63, 9)}
	lay(t, d, 5, sectorsOf(other))
	if kind, b, e := a.Get(2); kind != 200 || !bytes.Equal(b, other.payload) || e != api.OK {
		t.Errorf("P5.2: another frame of this life and number: %d, %d bytes, %d", kind, len(b), e)
	}
	refused(t, "P5.2: a frame that another one overran", a, 6, api.EFORM)
	wantFrames(t, "P5.1: up to the area's end", opened(t, d, 3, 9), 1<<40, 0, []piece{l[0], other})
}

func TestTooManyBytesStand(t *testing.T) {
	for n, frames := range map[int]int{1000: 1, 1001: 0, 1007: 0, 1008: 0, 2000: 0} {
		d := made(t, 60)
		lay(t, d, 0, sectorsOf(piece{life: 4, payload: filled(n, n)}))
		if a := opened(t, d, 0, 60); len(a.All()) != frames {
			t.Errorf("P5.1: a frame of %d bytes: %d stand; want %d", n, len(a.All()), frames)
		}
	}
}

// Another mark than 72, with a sum that is right for it.
func TestAnotherMark(t *testing.T) {
	for mark := range 256 {
		d, a, l := standing(t)
		b := sector(t, d, 3+6)
		b[0] = byte(mark)
		sum := crc32.ChecksumIEEE(append(bytes.Clone(b[:16]), l[2].payload...))
		binary.LittleEndian.PutUint32(b[16:], sum)
		d.Write(3+6, b)
		if mark == 72 {
			wantFrames(t, "P5.1: a frame's own mark", opened(t, d, 3, 9), 1<<40, 2, l)
			continue
		}
		refused(t, "P5.2: another mark", a, 6, api.EFORM)
		wantFrames(t, "P5.1: another mark", opened(t, d, 3, 9), 1<<40, 3, l[:2])
	}
}

func TestTheFirstOneGivesTheLife(t *testing.T) {
	for number := range uint32(3) {
		d := made(t, 6)
		lay(t, d, 0, sectorsOf(piece{life: 4, number: number}))
		lay(t, d, 1, sectorsOf(piece{life: 4, number: number + 1}))
		a := opened(t, d, 0, 6)
		if number == 0 {
			wantFrames(t, "P5.1: from number 0 on", a, 4, 4, []piece{{at: 0}, {at: 1}})
			continue
		}
		wantFrames(t, "P5.1: without number 0", a, 0, 6, nil)
	}
	d := made(t, 6)
	lay(t, d, 1, sectorsOf(piece{life: 4}))
	wantFrames(t, "P5.1: none at the first sector", opened(t, d, 0, 6), 0, 6, nil)
	wantFrames(t, "P5.1: it stands at another area's first", opened(t, d, 1, 5), 4, 4, []piece{{}})
	lay(t, d, 3, sectorsOf(piece{life: 4, number: 1}))
	wantFrames(t, "P5.1: not right behind", opened(t, d, 1, 5), 4, 4, []piece{{}})
}

func TestBegin(t *testing.T) {
	d, a, l := standing(t)
	writes := d.Writes()
	a.Begin(8)
	if d.Writes() != writes {
		t.Errorf("P5.2: Begin writes")
	}
	wantFrames(t, "P5.2: behind Begin", a, 8, 9, nil)
	for _, at := range []int{0, 2, 6} {
		refused(t, "P5.2: behind Begin", a, at, api.ENONE)
	}
	wantFrames(t, "P5.2: what Begin left on the disk", opened(t, d, 3, 9), 1<<40, 2, l)
	young := piece{kind: 9, payload: filled(30, 4)}
	if at := added(t, a, 9, young.payload); at != 0 {
		t.Errorf("P5.2: the first one behind Begin: at %d", at)
	}
	wantFrames(t, "P5.2: behind Begin and Add", a, 8, 8, []piece{young})
	wantFrames(t, "P5.1: elder frames", opened(t, d, 3, 9), 8, 8, []piece{young})
	a.Begin(0)
	wantFrames(t, "P5.2: Begin of life 0", a, 0, 9, nil)
	added(t, a, 9, young.payload)
	wantFrames(t, "P5.1: a frame of life 0", opened(t, d, 3, 9), 0, 8, []piece{young})
}

func TestNothingIsShared(t *testing.T) {
	d := made(t, 20)
	a := opened(t, d, 0, 20)
	a.Begin(1)
	for _, n := range []int{0, 10, 44, 100, 500} {
		room := filled(n+200, n)
		was := bytes.Clone(room)
		at := added(t, a, 1, room[:n])
		if !bytes.Equal(room, was) {
			t.Fatalf("R4: Add of %d bytes changes what it is handed", n)
		}
		clear(room)
		for range 2 {
			_, b, e := a.Get(at)
			if e != api.OK || !bytes.Equal(b, was[:n]) {
				t.Fatalf("R4: Get of %d bytes: %v, %d; want %v", n, b, e, was[:n])
			}
			clear(b[:cap(b)])
		}
	}
	all := a.All()
	want := slices.Clone(all)
	clear(all[:cap(all)])
	if got := a.All(); !slices.Equal(got, want) {
		t.Errorf("R4: All hands out its own: %v; want %v", got, want)
	}
	all = a.All()
	_ = append(all, 99)
	added(t, a, 1, nil)
	if got := a.All(); !slices.Equal(got[:len(want)], want) || got[len(want)] == 99 {
		t.Errorf("R4: All hands out its spare room: %v", got)
	}
}
