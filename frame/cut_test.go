package frame

import (
	"encoding/binary"
	"hash/crc32"
	"math/rand"
	"testing"

	"publican/api"
	"publican/disk"
)

// walk finds the frames of an area by the chapter's words and the library alone.
func walk(t *testing.T, d *disk.Disk, first, sectors int) (life uint64, room int, l []piece) {
	t.Helper()
	at := 0
	for at < sectors {
		head := sector(t, d, first+at)
		n := int(binary.LittleEndian.Uint16(head[14:]))
		if head[0] != 72 || n > 1000 {
			break
		}
		body, size := head[20:], 1
		for len(body) < n && at+size < sectors {
			next := sector(t, d, first+at+size)
			if next[0] != 67 {
				break
			}
			body, size = append(body, next[1:]...), size+1
		}
		if len(body) < n {
			break
		}
		sum := crc32.NewIEEE()
		sum.Write(head[:16])
		sum.Write(body[:n])
		p := piece{at, head[1], binary.LittleEndian.Uint64(head[2:]), binary.LittleEndian.Uint32(head[10:]), body[:n]}
		if sum.Sum32() != binary.LittleEndian.Uint32(head[16:]) || p.number != uint32(len(l)) || len(l) > 0 && p.life != life {
			break
		}
		life = p.life
		l = append(l, p)
		at += size
	}
	return life, sectors - at, l
}

// fakes is a payload in which, at each byte that may come to stand at a sector's beginning, a frame seems to begin.
func fakes(n int, life uint64, number uint32) []byte {
	var b []byte
	for len(b) < n {
		b = append(b, sectorsOf(piece{kind: 1, life: life, number: number})[0][:20]...)
		b = append(b, 72, 67)
	}
	return b[:n]
}

// P5.3, at each write of a frame, over sectors that elder frames stood in.
func TestCutAtAnyWrite(t *testing.T) {
	for _, elder := range []int{0, 44, 150, 1000} {
		for _, n := range []int{0, 44, 45, 107, 300, 1000} {
			for cut := 1; cut <= Size(n)+1; cut++ {
				for how := range 2 {
					wantWholeOrNone(t, elder, n, cut, how)
				}
			}
		}
	}
}

func wantWholeOrNone(t *testing.T, elder, n, cut, how int) {
	t.Helper()
	d := made(t, 80)
	a := opened(t, d, 2, 70)
	a.Begin(20)
	for a.Room() >= Size(elder) {
		added(t, a, 1, fakes(elder, 21, 1))
	}
	a.Begin(21)
	l := []piece{{at: 0, kind: 2, payload: filled(70, 1)}, {at: 2, kind: 3, payload: fakes(n, 21, 2)}}
	added(t, a, 2, l[0].payload)
	d.Cut(cut, how)
	at, e := a.Add(3, l[1].payload)
	if cut > Size(n) {
		wantFrames(t, "P5.2: a cut that comes later", a, 21, 68-Size(n), l)
	} else if at != 0 || e != api.EOFF || len(a.All()) != 1 || a.Room() != 68 {
		t.Fatalf("P5.2: cut at %d, %d of %d bytes: %d, %d, frames at %v", cut, how, n, at, e, a.All())
	}
	d.On()
	there, left := l[:1], 68
	if cut > Size(n) || cut == Size(n) && how == 1 {
		there, left = l, 68-Size(n)
	}
	b := opened(t, d, 2, 70)
	wantFrames(t, "P5.3: behind a cut", b, 21, left, there)
	last := piece{at: 70 - left, kind: 4, payload: filled(30, 5)}
	added(t, b, 4, last.payload)
	wantFrames(t, "P5.3: the next one behind a cut", opened(t, d, 2, 70), 21, left-1, append(there[:len(there):len(there)], last))
}

// Random lives of two areas beside each other, against what the chapter's words find in the sectors.
func TestLivesOfAnArea(t *testing.T) {
	r := rand.New(rand.NewSource(5))
	for range 60 {
		d := made(t, 90)
		areas := []*Area{opened(t, d, 3, 40), opened(t, d, 43, 45)}
		ends := [][2]int{{3, 40}, {43, 45}}
		for step := range 120 {
			i := r.Intn(2)
			switch r.Intn(12) {
			case 0:
				areas[i].Begin(uint64(r.Intn(4)))
			case 1:
				d.Cut(r.Intn(30), r.Intn(2))
			case 2:
				d.Write(3+r.Intn(85), filled(r.Intn(65), step))
			default:
				areas[i].Add(byte(step), fakes(r.Intn(400), uint64(r.Intn(4)), uint32(r.Intn(9))))
			}
			if !d.Power() {
				d.On()
				areas[0], areas[1] = opened(t, d, 3, 40), opened(t, d, 43, 45)
			}
			life, room, l := walk(t, d, ends[i][0], ends[i][1])
			wantFrames(t, "P5.1: a random life", opened(t, d, ends[i][0], ends[i][1]), life, room, l)
		}
		for _, s := range []int{0, 1, 2, 88, 89} {
			for _, c := range sector(t, d, s) {
				if c != 0 {
					t.Fatalf("P5.2: sector %d, of no area, was written", s)
				}
			}
		}
	}
}
