package page

import (
	"bytes"
	"encoding/binary"
	"fmt"
	"math"
	"math/rand"
	"slices"
	"testing"
	"time"

	"publican/api"
)

// text writes a text behind b, its length ahead of it, by the library.
func text(b []byte, s string) []byte {
	return append(binary.AppendUvarint(b, uint64(len(s))), s...)
}

// bytesOf writes a good page as the chapter does, by the library.
func bytesOf(p Page) []byte {
	b := []byte{66}
	if p.Leaf {
		b = []byte{76}
	}
	b = binary.AppendUvarint(b, uint64(len(p.Keys)))
	for i, key := range p.Keys {
		b = text(b, key)
		if p.Leaf {
			b = text(b, p.Vals[i])
		}
	}
	for _, kid := range p.Kids {
		b = binary.AppendUvarint(b, kid)
	}
	return b
}

// wantForm looks whether Decode takes just what is the bytes of a good page.
func wantForm(t *testing.T, b []byte) (taken bool) {
	t.Helper()
	was := bytes.Clone(b)
	p, e := Decode(b)
	if !bytes.Equal(b, was) {
		t.Fatalf("R4: Decode changes what it is handed: %v", was)
	}
	if e == api.OK {
		if !Good(p) || !bytes.Equal(bytesOf(p), b) {
			t.Fatalf("P6.1: Decode(%v): %#v; want error 3", b, p)
		}
		return true
	}
	if e != api.EFORM || !same(p, Page{}) {
		t.Fatalf("P6.1: Decode(%v): %#v, %d; want error 3", b, p, e)
	}
	return false
}

func wantTwoWays(t *testing.T, p Page) {
	t.Helper()
	want := bytesOf(p)
	if got := Encode(p); !bytes.Equal(got, want) {
		t.Fatalf("P6.1: Encode of %#v: %v; want %v", p, got, want)
	}
	if got := Bytes(p); got != len(want) {
		t.Fatalf("P6.1: Bytes of %#v: %d; want %d", p, got, len(want))
	}
	if got, e := Decode(want); !same(got, p) || e != api.OK {
		t.Fatalf("P6.1: Decode of %#v's bytes: %#v, %d", p, got, e)
	}
}

func TestExamples(t *testing.T) {
	for _, c := range []struct {
		p    Page
		want []byte
	}{
		{leafOf("a", "1"), []byte{76, 1, 1, 97, 1, 49}},
		{leafOf(), []byte{76, 0}},
		{leafOf("a", "", "b", "xy"), []byte{76, 2, 1, 97, 0, 1, 98, 2, 120, 121}},
		{branchOf(), []byte{66, 0, 1}},
		{Page{Keys: []string{"a", "b"}, Kids: []uint64{300, 1, 128}}, []byte{66, 2, 1, 97, 1, 98, 172, 2, 1, 128, 1}},
		{Page{Kids: []uint64{math.MaxUint64}}, []byte{66, 0, 255, 255, 255, 255, 255, 255, 255, 255, 255, 1}},
	} {
		if got := Encode(c.p); !bytes.Equal(got, c.want) {
			t.Errorf("P6.1: Encode of %#v: %v; want %v", c.p, got, c.want)
		}
		if got, e := Decode(c.want); !same(got, c.p) || e != api.OK {
			t.Errorf("P6.1: Decode(%v): %#v, %d; want %#v", c.want, got, e, c.p)
		}
		wantTwoWays(t, c.p)
	}
}

func TestTwoWays(t *testing.T) {
	for _, p := range good() {
		wantTwoWays(t, p)
	}
	r := rand.New(rand.NewSource(5))
	for range 1000 {
		wantTwoWays(t, random(r, r.Intn(2) == 0, 12))
	}
}

func TestBytesCutShortOrLengthened(t *testing.T) {
	for i, p := range good() {
		b := bytesOf(p)
		for n := range min(len(b), 3000) {
			if wantForm(t, b[:n]) {
				t.Errorf("P6.1: Decode takes the first %d bytes of number %d", n, i)
			}
		}
		for _, more := range []byte{0, 1, 66, 76, 128, 255} {
			if wantForm(t, append(bytes.Clone(b), more)) {
				t.Errorf("P6.1: Decode takes number %d with a byte %d behind", i, more)
			}
		}
	}
}

func TestBytesOfWrongPages(t *testing.T) {
	for told, p := range wrong() {
		// Of what a page should not have nothing is written: then the bytes are those of one that is good.
		if p.Leaf && (len(p.Vals) != len(p.Keys) || len(p.Kids) > 0) || !p.Leaf && len(p.Vals) > 0 {
			continue
		}
		if wantForm(t, bytesOf(p)) {
			t.Errorf("P6.1: Decode takes %s", told)
		}
		if got, want := Encode(p), bytesOf(p); !bytes.Equal(got, want) || Bytes(p) != len(want) {
			t.Errorf("P6.1: Encode of %s: %v; want %v", told, got, want)
		}
	}
}

func TestBytesWithoutForm(t *testing.T) {
	great := binary.AppendUvarint(nil, math.MaxUint64)
	half := binary.AppendUvarint(nil, 1<<63)
	long := binary.AppendUvarint(nil, 1<<32+1)
	for _, b := range [][]byte{
		nil, {}, {0}, {76}, {66}, {77, 0}, {65, 0, 1}, {108, 0}, {98, 0, 1}, {0, 76, 0},
		{66, 0}, {66, 0, 0}, {66, 0, 128, 0}, {66, 0, 129, 0}, {66, 0, 1, 1}, {76, 128, 0}, {76, 129, 0, 1, 97, 0}, {76, 1, 129, 0, 97, 0},
		{76, 1, 0, 0}, {76, 1, 1, 97}, {76, 1, 1, 97, 1}, {76, 2, 1, 97, 0, 1, 97, 0}, {76, 2, 1, 98, 0, 1, 97, 0}, {76, 1, 1, 97, 128, 0},
		{66, 1, 1, 97, 1}, {66, 1, 1, 97, 1, 0}, {66, 1, 1, 97, 0, 1}, {66, 1, 0, 1, 1}, {66, 2, 1, 97, 1, 97, 1, 1, 1},
		slices.Concat([]byte{76}, great), slices.Concat([]byte{66}, great, []byte{1}), slices.Concat([]byte{76}, half), slices.Concat([]byte{66}, half),
		slices.Concat([]byte{66, 0}, great[:9], []byte{2}), slices.Concat([]byte{66, 0}, great[:9], []byte{129}),
		slices.Concat([]byte{76}, long, []byte{1, 97, 0}), slices.Concat([]byte{66}, long, []byte{1, 97, 1, 1}),
		slices.Concat([]byte{76, 1}, great, []byte{97, 0}), slices.Concat([]byte{76, 1, 1, 97}, great), slices.Concat([]byte{76, 1}, long, []byte{97, 0}),
	} {
		if wantForm(t, b) {
			t.Errorf("P6.1: Decode(%v): OK; want error 3", b)
		}
	}
}

// shortLists are all lists of at most most of some bytes.
func shortLists(all []byte, most int) [][]byte {
	lists := [][]byte{nil}
	for at := 0; at < len(lists); at++ {
		for _, c := range all {
			if len(lists[at]) < most {
				lists = append(lists, append(bytes.Clone(lists[at]), c))
			}
		}
	}
	return lists
}

// TestAllShortBytes hands in all lists of up to six of some bytes: those that are taken are counted against the pages that have them.
func TestAllShortBytes(t *testing.T) {
	all := []byte{0, 1, 2, 66, 76, 128}
	taken := 0
	for _, b := range shortLists(all, 6) {
		if wantForm(t, b) {
			taken++
		}
	}
	if want := countLeaves(all, leafOf(), 6) + countBranches(all, Page{}, 6); taken != want {
		t.Errorf("P6.1: Decode takes %d lists of bytes; want %d", taken, want)
	}
}

// textsAbove are the texts above a page's last key. A length told by a byte above 2 is one that these lists have no room for.
func textsAbove(all []byte, p Page) []string {
	last := ""
	if len(p.Keys) > 0 {
		last = p.Keys[len(p.Keys)-1]
	}
	var l []string
	for _, b := range shortLists(all, 2) {
		if string(b) > last {
			l = append(l, string(b))
		}
	}
	return l
}

// countLeaves counts a leaf, and those that go on as it begins, whose bytes are at most most.
func countLeaves(all []byte, p Page, most int) int {
	if len(bytesOf(p)) > most {
		return 0
	}
	count := 1
	for _, key := range textsAbove(all, p) {
		for _, val := range shortLists(all, 2) {
			q := Page{Leaf: true, Keys: append(slices.Clone(p.Keys), key), Vals: append(slices.Clone(p.Vals), string(val))}
			count += countLeaves(all, q, most)
		}
	}
	return count
}

// countBranches counts the branches that begin with a page's keys, whose bytes are at most most.
func countBranches(all []byte, p Page, most int) int {
	if len(bytesOf(p)) >= most {
		return 0
	}
	count := countKids(all, p, most)
	for _, key := range textsAbove(all, p) {
		count += countBranches(all, Page{Keys: append(slices.Clone(p.Keys), key)}, most)
	}
	return count
}

// countKids counts the branches of a page's keys, with its kids ahead of others.
func countKids(all []byte, p Page, most int) int {
	room := most - len(bytesOf(p))
	if room < 0 {
		return 0
	}
	if len(p.Kids) > len(p.Keys) {
		return 1
	}
	count := 0
	for _, b := range shortLists(all, room) {
		kid, n := binary.Uvarint(b)
		if kid > 0 && n == len(b) && bytes.Equal(binary.AppendUvarint(nil, kid), b) {
			count += countKids(all, Page{Keys: p.Keys, Kids: append(slices.Clone(p.Kids), kid)}, most)
		}
	}
	return count
}

func TestBytesChanged(t *testing.T) {
	r := rand.New(rand.NewSource(6))
	for range 300 {
		b := bytesOf(random(r, r.Intn(2) == 0, 4))
		for range 200 {
			c := bytes.Clone(b)
			for range 1 + r.Intn(2) {
				at := r.Intn(len(c))
				switch r.Intn(3) {
				case 0:
					c[at] = byte(r.Intn(256))
				case 1:
					c = slices.Insert(c, at, byte(r.Intn(256)))
				default:
					c = append(slices.Delete(c, at, at+1), 0)
				}
			}
			wantForm(t, c)
		}
	}
}

func TestDecodeKeepsNothing(t *testing.T) {
	want := leafOf("ab", "cd", "b", "e")
	room := append(bytesOf(want), 1, 2, 3)
	b := room[:len(room)-3]
	p, e := Decode(b)
	clear(room)
	if !same(p, want) || e != api.OK {
		t.Errorf("R4: Decode keeps what it is handed: %#v, %d; want %#v", p, e, want)
	}
	one, two := Encode(want), Encode(want)
	clear(one[:cap(one)])
	if !bytes.Equal(two, bytesOf(want)) {
		t.Errorf("R4: what Encode answers shares its memory: %v", two)
	}
}

// TestGreatPages looks that a great page, which the limits allow, takes no longer than its bytes ask for.
func TestGreatPages(t *testing.T) {
	begun := time.Now()
	leaf, branch := leafOf(), branchOf()
	for i := range 200000 {
		key := fmt.Sprintf("%08d", i)
		leaf.Keys, leaf.Vals = append(leaf.Keys, key), append(leaf.Vals, "value")
		branch.Keys, branch.Kids = append(branch.Keys, key), append(branch.Kids, uint64(i+1))
	}
	wantTwoWays(t, leaf)
	wantTwoWays(t, branch)
	first, key, second := leaf.Split()
	if len(first.Keys) != splitAt(leaf.Keys, leaf.Vals) || key != second.Keys[0] || len(first.Keys)+len(second.Keys) != len(leaf.Keys) {
		t.Errorf("P6.2: Split of a great leaf: %d and %d keys", len(first.Keys), len(second.Keys))
	}
	if took := time.Since(begun); took > 30*time.Second {
		t.Errorf("R1: great pages take %v", took)
	}
}
