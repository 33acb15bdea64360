package disk

import (
	"bytes"
	"math"
	"testing"

	"publican/api"
)

// made is a new disk, told of if it can't be had.
func made(t *testing.T, sectors int) *Disk {
	t.Helper()
	d, e := New(sectors)
	if d == nil || e != api.OK {
		t.Fatalf("P4.1: New(%d): %d", sectors, e)
	}
	return d
}

// sectorOf is b with noughts behind it.
func sectorOf(b ...byte) []byte {
	return append(append([]byte{}, b...), make([]byte, 64-len(b))...)
}

// holds says where a sector is not as it should be.
func holds(t *testing.T, told string, d *Disk, sector int, want []byte) {
	t.Helper()
	if b, e := d.Read(sector); e != api.OK || !bytes.Equal(b, want) {
		t.Errorf("%s: Read(%d): %v, %d; want %v", told, sector, b, e, want)
	}
}

func TestNew(t *testing.T) {
	for _, n := range []int{1, 2, 63, 64, 2048, 4095, 4096} {
		d := made(t, n)
		if d.Sectors() != n || !d.Power() || d.Lives() != 1 || d.Writes() != 0 {
			t.Errorf("P4.1: New(%d): %d sectors, power %v, %d lives, %d writes", n, d.Sectors(), d.Power(), d.Lives(), d.Writes())
		}
		for s := range n {
			holds(t, "P4.1: a new disk", d, s, sectorOf())
		}
	}
	for _, n := range []int{0, -1, 4097, 1 << 32, math.MinInt, math.MaxInt} {
		if d, e := New(n); d != nil || e != api.EARG {
			t.Errorf("P4.1: New(%d): %v, %d; want none, 1", n, d, e)
		}
	}
}

func TestWriteAndRead(t *testing.T) {
	d := made(t, 4096)
	long := bytes.Repeat([]byte{200}, 64)
	for i, sector := range []int{0, 1, 2047, 4094, 4095} {
		for _, b := range [][]byte{{1, 2, 3}, long, {byte(i), 0, 9}, long[:63], {}, {byte(i + 5)}, nil, {0}, long} {
			before := d.Writes()
			if e := d.Write(sector, b); e != api.OK {
				t.Errorf("P4.1: Write(%d, %d bytes): %d", sector, len(b), e)
			}
			holds(t, "P4.1: behind a Write", d, sector, sectorOf(b...))
			if d.Writes() != before+1 {
				t.Errorf("P4.1: Writes: %d; want %d", d.Writes(), before+1)
			}
		}
	}
	holds(t, "P4.1: a sector that was not written", d, 2, sectorOf())
	holds(t, "P4.1: a sector that was not written", d, 4093, sectorOf())
	if d.Sectors() != 4096 || !d.Power() || d.Lives() != 1 {
		t.Errorf("P4.1: Write changed more than its sector: %d sectors, power %v, %d lives", d.Sectors(), d.Power(), d.Lives())
	}
}

// wrongWrites are those that a disk of three sectors refuses as EARG, whether it has power or not.
var wrongWrites = []struct {
	sector, bytes int
}{{-1, 0}, {3, 0}, {4, 1}, {math.MinInt, 0}, {math.MaxInt, 0}, {1 << 32, 0}, {0, 65}, {2, 65}, {1, 1000}, {3, 65}}

func TestWrongArguments(t *testing.T) {
	d := made(t, 3)
	for s := range 3 {
		d.Write(s, []byte{byte(s + 1)})
	}
	for _, off := range []bool{false, true} {
		if off {
			d.Cut(1, 0)
			d.Write(0, nil)
		}
		for _, w := range wrongWrites {
			if e := d.Write(w.sector, make([]byte, w.bytes)); e != api.EARG {
				t.Errorf("P4.1: Write(%d, %d bytes), off %v: %d; want 1", w.sector, w.bytes, off, e)
			}
		}
		for _, n := range []int{-1, 3, 4, math.MinInt, math.MaxInt, 1 << 32} {
			if b, e := d.Read(n); len(b) != 0 || e != api.EARG {
				t.Errorf("P4.1: Read(%d), off %v: %v, %d; want 1", n, off, b, e)
			}
		}
	}
	if d.Writes() != 3 || d.Lives() != 1 {
		t.Errorf("R3: what was refused counts: %d writes, %d lives", d.Writes(), d.Lives())
	}
	d.On()
	for s := range 3 {
		holds(t, "R3: behind what was refused", d, s, sectorOf(byte(s+1)))
	}
}

func TestNothingIsShared(t *testing.T) {
	d := made(t, 2)
	room := bytes.Repeat([]byte{7}, 100)
	d.Write(0, room[:3])
	if !bytes.Equal(room, bytes.Repeat([]byte{7}, 100)) {
		t.Errorf("R4: Write changes what it is handed: %v", room)
	}
	room[1] = 8
	holds(t, "R4: Write keeps what it is handed", d, 0, sectorOf(7, 7, 7))
	b, _ := d.Read(0)
	if len(b) != 64 {
		t.Fatalf("P4.1: Read(0): %d bytes", len(b))
	}
	for i, all := 0, b[:cap(b)]; i < len(all); i++ {
		all[i] = 99
	}
	holds(t, "R4: Read hands out its own", d, 0, sectorOf(7, 7, 7))
	holds(t, "R4: Read hands out the next one", d, 1, sectorOf())
	d.Write(0, []byte{1})
	if b[0] != 99 {
		t.Errorf("R4: what Read answered changed with a later Write: %v", b)
	}
}
