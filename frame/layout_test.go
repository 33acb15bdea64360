package frame

import (
	"bytes"
	"encoding/binary"
	"hash/crc32"
	"math"
	"testing"

	"publican/api"
	"publican/disk"
)

// piece is a frame as the tests tell of it.
type piece struct {
	at      int
	kind    byte
	life    uint64
	number  uint32
	payload []byte
}

// sectorsOf lays a frame out as the chapter does, by the library.
func sectorsOf(p piece) [][]byte {
	head := []byte{72, p.kind}
	head = binary.LittleEndian.AppendUint64(head, p.life)
	head = binary.LittleEndian.AppendUint32(head, p.number)
	head = binary.LittleEndian.AppendUint16(head, uint16(len(p.payload)))
	sum := crc32.NewIEEE()
	sum.Write(head)
	sum.Write(p.payload)
	head = binary.LittleEndian.AppendUint32(head, sum.Sum32())
	all, rest := [][]byte{make([]byte, 64)}, p.payload
	rest = rest[copy(all[0][copy(all[0], head):], rest):]
	for len(rest) > 0 {
		next := make([]byte, 64)
		next[0] = 67
		rest = rest[copy(next[1:], rest):]
		all = append(all, next)
	}
	return all
}

// filled is a payload of n bytes, told apart from others by a seed.
func filled(n, seed int) []byte {
	b := make([]byte, n)
	for i := range b {
		b[i] = byte(i*7 + seed*31 + i/60)
	}
	return b
}

func made(t *testing.T, sectors int) *disk.Disk {
	t.Helper()
	d, e := disk.New(sectors)
	if e != api.OK {
		t.Fatalf("P4.1: New(%d): %d", sectors, e)
	}
	return d
}

func opened(t *testing.T, d *disk.Disk, first, sectors int) *Area {
	t.Helper()
	a, e := Open(d, first, sectors)
	if a == nil || e != api.OK {
		t.Fatalf("P5.1: Open(%d, %d): %v, %d", first, sectors, a, e)
	}
	return a
}

// added adds a frame that has room.
func added(t *testing.T, a *Area, kind byte, b []byte) int {
	t.Helper()
	at, e := a.Add(kind, b)
	if e != api.OK {
		t.Fatalf("P5.2: Add(%d, %d bytes): %d", kind, len(b), e)
	}
	return at
}

// sector reads one that can be read.
func sector(t *testing.T, d *disk.Disk, n int) []byte {
	t.Helper()
	b, e := d.Read(n)
	if e != api.OK {
		t.Fatalf("P4.1: Read(%d): %d", n, e)
	}
	return b
}

// lay writes sectors by hand, from the given one on.
func lay(t *testing.T, d *disk.Disk, at int, sectors [][]byte) {
	t.Helper()
	for i, s := range sectors {
		if e := d.Write(at+i, s); e != api.OK {
			t.Fatalf("P4.1: Write(%d): %d", at+i, e)
		}
	}
}

func TestSize(t *testing.T) {
	for n := range 1001 {
		if got, want := Size(n), len(sectorsOf(piece{payload: make([]byte, n)})); got != want {
			t.Errorf("P5.1: Size(%d): %d; want %d", n, got, want)
		}
	}
	for n, want := range map[int]int{0: 1, 44: 1, 45: 2, 107: 2, 108: 3, 1000: 17} {
		if got := Size(n); got != want {
			t.Errorf("P5.1: Size(%d): %d; want %d", n, got, want)
		}
	}
	for _, n := range []int{-1, -44, 1001, 1002, 65535, 65536, 1 << 32, math.MaxInt, math.MaxInt - 62, math.MinInt, math.MinInt + 44} {
		if got := Size(n); got != 0 {
			t.Errorf("P5.1: Size(%d): %d; want 0", n, got)
		}
	}
}

func TestFits(t *testing.T) {
	lists := [][]int{nil, {}, {0}, {44}, {45}, {1000}, {0, 0, 0}, {44, 45, 107, 108}, {1000, 0, 1000}}
	for _, l := range lists {
		all := 0
		for _, n := range l {
			all += len(sectorsOf(piece{payload: make([]byte, n)}))
		}
		for sectors := -2; sectors < 60; sectors++ {
			if got := Fits(sectors, l...); got != (all <= sectors) {
				t.Errorf("P5.2: Fits(%d, %v): %v", sectors, l, got)
			}
		}
		if !Fits(math.MaxInt, l...) || Fits(math.MinInt, l...) {
			t.Errorf("P5.2: Fits of the greatest or of the least number, %v", l)
		}
		for _, none := range []int{-1, 1001, math.MaxInt, math.MinInt} {
			if Fits(100, append([]int{none}, l...)...) || Fits(100, append(append([]int{}, l...), none)...) {
				t.Errorf("P5.2: Fits(100, %v and %d): true", l, none)
			}
		}
	}
	l := []int{5, 6, 7, 8}
	if Fits(2, l[:2]...); l[2] != 7 || l[0] != 5 {
		t.Errorf("R4: Fits changes what it is handed: %v", l)
	}
}

func TestSectorsOfAFrame(t *testing.T) {
	d := made(t, 60)
	old := bytes.Repeat([]byte{200}, 64)
	for n := 0; n <= 1000; n++ {
		for s := range 60 {
			d.Write(s, old)
		}
		p := piece{kind: byte(n), life: uint64(n) * 0x0123456789ABCD, payload: filled(n, n)}
		a := opened(t, d, 5, 40)
		a.Begin(p.life)
		added(t, a, 9, filled(50, 1))
		p.number = 1
		if at := added(t, a, p.kind, p.payload); at != 2 {
			t.Fatalf("P5.2: Add: at %d; want 2", at)
		}
		want := append(sectorsOf(piece{kind: 9, life: p.life, payload: filled(50, 1)}), sectorsOf(p)...)
		for s := range 60 {
			should := old
			if s >= 5 && s < 5+len(want) {
				should = want[s-5]
			}
			if got := sector(t, d, s); !bytes.Equal(got, should) {
				t.Fatalf("P5: a frame of %d bytes: sector %d: %v; want %v", n, s, got, should)
			}
		}
	}
}

func TestLastSectorFirst(t *testing.T) {
	p := piece{kind: 4, life: 3, payload: filled(300, 2)}
	young, old := sectorsOf(p), bytes.Repeat([]byte{9}, 64)
	for n := 1; n <= len(young); n++ {
		for how := range 2 {
			d := made(t, 10)
			for s := range 10 {
				d.Write(s, old)
			}
			a := opened(t, d, 2, 8)
			a.Begin(3)
			d.Cut(n, how)
			if at, e := a.Add(p.kind, p.payload); at != 0 || e != api.EOFF {
				t.Fatalf("P5.2: Add, cut at %d: %d, %d; want 0, 4", n, at, e)
			}
			d.On()
			for i := range young {
				should := old
				if i > len(young)-n || i == len(young)-n && how == 1 {
					should = young[i]
				}
				if got := sector(t, d, 2+i); !bytes.Equal(got, should) {
					t.Errorf("P5.2: cut at %d, %d: sector %d: %v; want %v", n, how, i, got, should)
				}
			}
		}
	}
}
