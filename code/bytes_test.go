package code

import (
	"bytes"
	"encoding/binary"
	"fmt"
	"hash/crc32"
	"math"
	"math/rand"
	"slices"
	"strings"
	"testing"

	"publican/api"
)

// full is a program with some of everything.
func full() Program {
	return Program{
		Consts: []api.Value{{Kind: api.Money, N: 150}, {Kind: api.Rate, N: -75000}, {Kind: api.List}},
		Tables: []Table{
			{Key: api.Money, Val: api.Rate, Keys: []int64{-1, 300}, Vals: []int64{5, 0, 1 << 40}},
			{Key: api.Date, Val: api.Bool, Keys: []int64{9}, Vals: []int64{1, 0}},
		},
		Inputs: []api.Kind{api.List, api.Count},
		Outs:   []api.Kind{api.Money},
		Slots:  []api.Kind{api.Count, api.Money, api.Bool},
		Names:  []string{"tax", ""},
		Code:   []Instr{{21, 0, 0, 0}, {19, 0, 1, 9}, {20, -1, 64, 2}, {22, 0, 0, 0}, {23, 0, 0, 0}},
	}
}

// great is a program past all that the verifier takes.
func great() Program {
	var p Program
	for i := range 70000 {
		p.Consts = append(p.Consts, api.Value{Kind: api.Count, N: int64(i)})
		p.Code = append(p.Code, Instr{i % 24, i, -i, 1})
	}
	for i := range 300 {
		p.Tables = append(p.Tables, Table{Key: api.Count, Val: api.Count, Keys: make([]int64, i), Vals: make([]int64, i+1)})
		p.Inputs = append(p.Inputs, api.Kind(i-100))
		p.Outs = append(p.Outs, api.Kind(i-200))
		p.Slots = append(p.Slots, api.Kind(i-300))
		p.Names = append(p.Names, strings.Repeat("n", i))
	}
	return p
}

// programs are ordinary, empty, odd and great ones.
func programs() []Program {
	ends := Program{
		Consts: []api.Value{{Kind: math.MinInt, N: math.MaxInt64}, {Kind: math.MaxInt, N: math.MinInt64}, {Kind: -1, N: -1}, {Kind: 7, N: 1}},
		Tables: []Table{{Key: -5, Val: math.MaxInt, Keys: []int64{math.MinInt64, 5, 5}, Vals: []int64{math.MaxInt64}}, {}},
		Inputs: []api.Kind{0, -1, math.MaxInt}, Outs: []api.Kind{math.MinInt}, Slots: []api.Kind{63, 64, -64, -65},
		Names: []string{"\xff\x80", "\x00", strings.Repeat("long", 100), "FISC"},
		Code:  []Instr{{math.MaxInt, math.MinInt, -1, 1}, {-5, 0, 0, 0}, {24, 1, 2, 3}},
	}
	return append(different(), full(), ends)
}

// counted writes how many items there are, by the library.
func counted(b []byte, n int) []byte { return binary.AppendUvarint(b, uint64(n)) }

func modelKinds(b []byte, l []api.Kind) []byte {
	b = counted(b, len(l))
	for _, k := range l {
		b = binary.AppendVarint(b, int64(k))
	}
	return b
}

func modelNumbers(b []byte, l []int64) []byte {
	b = counted(b, len(l))
	for _, n := range l {
		b = binary.AppendVarint(b, n)
	}
	return b
}

// modelBody writes a program's lists as the chapter does, by the library.
func modelBody(p Program) []byte {
	b := counted(nil, len(p.Consts))
	for _, v := range p.Consts {
		b = binary.AppendVarint(binary.AppendVarint(b, int64(v.Kind)), v.N)
	}
	b = counted(b, len(p.Tables))
	for _, t := range p.Tables {
		b = binary.AppendVarint(binary.AppendVarint(b, int64(t.Key)), int64(t.Val))
		b = modelNumbers(modelNumbers(b, t.Keys), t.Vals)
	}
	b = modelKinds(modelKinds(modelKinds(b, p.Inputs), p.Outs), p.Slots)
	b = counted(b, len(p.Names))
	for _, s := range p.Names {
		b = append(counted(b, len(s)), s...)
	}
	b = counted(b, len(p.Code))
	for _, i := range p.Code {
		for _, n := range []int{i.Op, i.A, i.B, i.C} {
			b = binary.AppendVarint(b, int64(n))
		}
	}
	return b
}

// whole sets the mark ahead of a body, and the sum behind it, by the library.
func whole(body []byte) []byte {
	b := append([]byte{70, 73, 83, 67}, body...)
	return binary.LittleEndian.AppendUint32(b, crc32.ChecksumIEEE(b))
}

// alike tells whether two programs have the same fields (nil and an empty list are one).
func alike(p, q Program) bool {
	return slices.EqualFunc(p.Consts, q.Consts, func(v, w api.Value) bool { return v.Kind == w.Kind && v.N == w.N && slices.Equal(v.L, w.L) }) &&
		slices.EqualFunc(p.Tables, q.Tables, func(t, u Table) bool {
			return t.Key == u.Key && t.Val == u.Val && slices.Equal(t.Keys, u.Keys) && slices.Equal(t.Vals, u.Vals)
		}) &&
		slices.Equal(p.Inputs, q.Inputs) && slices.Equal(p.Outs, q.Outs) && slices.Equal(p.Slots, q.Slots) &&
		slices.Equal(p.Names, q.Names) && slices.Equal(p.Code, q.Code)
}

func wantTwoWays(t *testing.T, p Program) {
	t.Helper()
	want := whole(modelBody(p))
	if got := Encode(p); !bytes.Equal(got, want) {
		t.Fatalf("P14.1: Encode: %d bytes; want %d, or others: %.200v", len(got), len(want), fmt.Sprint(p))
	}
	if q, e := Decode(want); e != api.OK || !alike(p, q) {
		t.Fatalf("P14.1: Decode of its bytes: %v, %.200v; want %.200v", e, fmt.Sprint(q), fmt.Sprint(p))
	}
}

func wantNoForm(t *testing.T, told string, b []byte) {
	t.Helper()
	if p, e := Decode(b); e != api.EFORM || !alike(p, Program{}) {
		t.Errorf("P14.1: Decode of %s: %v, %.200v; want error 3", told, e, fmt.Sprint(p))
	}
}

func TestExampleOfDecode(t *testing.T) {
	wantNoForm(t, "nothing", []byte{})
	wantNoForm(t, "nil", nil)
}

func TestBytesAsTold(t *testing.T) {
	sum := func(b ...byte) []byte { return binary.LittleEndian.AppendUint32(b, crc32.ChecksumIEEE(b)) }
	for _, c := range []struct {
		p    Program
		want []byte
	}{
		{Program{}, sum(70, 73, 83, 67, 0, 0, 0, 0, 0, 0, 0)},
		{full(), sum(70, 73, 83, 67,
			3, 6, 172, 2, 8, 239, 147, 9, 12, 0,
			2, 6, 8, 2, 1, 216, 4, 3, 10, 0, 128, 128, 128, 128, 128, 64, 10, 2, 1, 18, 2, 2, 0,
			2, 12, 4, 1, 6, 3, 4, 6, 2,
			2, 3, 't', 'a', 'x', 0,
			5, 42, 0, 0, 0, 38, 0, 2, 18, 40, 1, 128, 1, 4, 44, 0, 0, 0, 46, 0, 0, 0)},
	} {
		if got := Encode(c.p); !bytes.Equal(got, c.want) {
			t.Errorf("P14.1: Encode of %+v: %v; want %v", c.p, got, c.want)
		}
	}
}

func TestTwoWays(t *testing.T) {
	for _, p := range programs() {
		wantTwoWays(t, p)
	}
	wantTwoWays(t, great())
}

func TestListOfConstantIsNotWritten(t *testing.T) {
	p := Program{Consts: []api.Value{{Kind: api.List, N: 3, L: []int64{1, 2, 3}}}}
	q := Program{Consts: []api.Value{{Kind: api.List, N: 3}}}
	if b := Encode(p); !bytes.Equal(b, Encode(q)) {
		t.Errorf("P14.1: Encode writes a constant's L: %v", b)
	}
	if got, e := Decode(Encode(p)); e != api.OK || !alike(got, q) {
		t.Errorf("P14.1: Decode of a constant that had an L: %+v, %v", got, e)
	}
}

func TestBytesCutShortLengthenedOrTurned(t *testing.T) {
	for i, p := range programs() {
		b := Encode(p)
		for n := range b {
			wantNoForm(t, fmt.Sprintf("the first %d bytes of number %d", n, i), b[:n])
			wantNoForm(t, fmt.Sprintf("number %d without its first %d bytes", i, n+1), b[n+1:])
			for bit := range 8 {
				c := bytes.Clone(b)
				c[n] ^= 1 << bit
				wantNoForm(t, fmt.Sprintf("number %d with bit %d of byte %d turned", i, bit, n), c)
			}
		}
		for _, more := range []byte{0, 1, 70, 128, 255} {
			wantNoForm(t, fmt.Sprintf("number %d with a byte %d behind", i, more), append(bytes.Clone(b), more))
			wantNoForm(t, fmt.Sprintf("number %d with a byte %d ahead", i, more), append([]byte{more}, b...))
		}
	}
}

// TestSumIsRight hands in bytes whose sum is right, and something else is wrong.
func TestSumIsRight(t *testing.T) {
	body := modelBody(full())
	for n := range body {
		wantNoForm(t, fmt.Sprintf("a body's first %d bytes", n), whole(body[:n]))
	}
	wantNoForm(t, "a body with a nought behind", whole(append(bytes.Clone(body), 0)))
	wantNoForm(t, "two bodies", whole(append(bytes.Clone(body), body...)))
	wantNoForm(t, "a sum of nothing", binary.LittleEndian.AppendUint32(nil, 0))
	for _, mark := range []string{"", "FIS", "FISC!", "fisc", "CSIF", "FISD", "\x00\x00\x00\x00"} {
		b := append([]byte(mark), body...)
		wantNoForm(t, "a mark "+mark, binary.LittleEndian.AppendUint32(b, crc32.ChecksumIEEE(b)))
	}
	b := append([]byte("FISC"), body...)
	wantNoForm(t, "a sum with its highest byte first", binary.BigEndian.AppendUint32(b, crc32.ChecksumIEEE(b)))
	wantNoForm(t, "a sum without the mark", binary.LittleEndian.AppendUint32(b, crc32.ChecksumIEEE(body)))
	wantNoForm(t, "another sum", binary.LittleEndian.AppendUint32(b, crc32.Checksum(b, crc32.MakeTable(crc32.Castagnoli))))
}

func TestNumbersWrittenOtherwise(t *testing.T) {
	most := binary.AppendUvarint(nil, math.MaxUint64)
	zeros := make([]byte, 7)
	for _, body := range [][]byte{
		append([]byte{128, 0}, zeros[1:]...),
		append([]byte{0, 128, 0}, zeros[2:]...),
		slices.Concat(zeros[1:], []byte{128, 0}),
		slices.Concat([]byte{1, 128, 0, 0}, zeros[1:]),
		slices.Concat([]byte{1, 2, 129, 0}, zeros[1:]),
		slices.Concat([]byte{1, 2}, most[:9], []byte{2}, zeros[1:]),
		slices.Concat([]byte{1, 2}, most[:9], []byte{129, 0}, zeros[1:]),
		slices.Concat(most[:9], []byte{2}, zeros[1:]),
		slices.Concat(zeros[:5], []byte{1, 130, 0, 'a', 'b'}, zeros[:1]),
	} {
		wantNoForm(t, fmt.Sprintf("a body %v", body), whole(body))
	}
	if p, e := Decode(whole(slices.Concat([]byte{1, 2}, most, zeros[1:]))); e != api.OK || p.Consts[0].N != math.MinInt64 {
		t.Errorf("P14.1: Decode of the least constant: %+v, %v", p, e)
	}
}

// TestMoreToldThanThere hands in lists and texts that are told longer than all bytes.
func TestMoreToldThanThere(t *testing.T) {
	for _, n := range []uint64{8, 1000, 1 << 31, 1<<32 + 1, 1 << 62, 1 << 63, math.MaxUint64} {
		many := binary.AppendUvarint(nil, n)
		for ahead := range 7 {
			noughts := make([]byte, 20)
			wantNoForm(t, fmt.Sprintf("%d items of list %d", n, ahead), whole(slices.Concat(noughts[:ahead], many)))
			wantNoForm(t, fmt.Sprintf("%d items of list %d, noughts behind", n, ahead), whole(slices.Concat(noughts[:ahead], many, noughts[:7])))
		}
		wantNoForm(t, fmt.Sprintf("a text of %d bytes", n), whole(slices.Concat(make([]byte, 5), []byte{1}, many, make([]byte, 7))))
		wantNoForm(t, fmt.Sprintf("a table of %d keys", n), whole(slices.Concat([]byte{0, 1, 0, 0}, many, make([]byte, 7))))
		wantNoForm(t, fmt.Sprintf("a table of %d values", n), whole(slices.Concat([]byte{0, 1, 0, 0, 0}, many, make([]byte, 7))))
	}
}

// modelReader reads bytes by the library, strictly: bad is for ever.
type modelReader struct {
	rest []byte
	bad  bool
}

func (r *modelReader) count() uint64 {
	u, n := binary.Uvarint(r.rest)
	if n <= 0 || !bytes.Equal(binary.AppendUvarint(nil, u), r.rest[:n]) {
		r.bad = true
		return 0
	}
	r.rest = r.rest[n:]
	return u
}

func (r *modelReader) skip(n uint64) {
	if n > uint64(len(r.rest)) {
		r.bad = true
		return
	}
	r.rest = r.rest[n:]
}

func (r *modelReader) list(item func()) {
	for n := r.count(); n > 0 && !r.bad; n-- {
		item()
	}
}

// modelTakes tells whether a body is just some program's.
func modelTakes(body []byte) bool {
	r := &modelReader{rest: body}
	number := func() { r.count() }
	r.list(func() { number(); number() })
	r.list(func() {
		number()
		number()
		r.list(number)
		r.list(number)
	})
	for range 3 {
		r.list(number)
	}
	r.list(func() { r.skip(r.count()) })
	r.list(func() {
		for range 4 {
			number()
		}
	})
	return !r.bad && len(r.rest) == 0
}

// wantAsModel hands a body in, with the mark and the right sum.
func wantAsModel(t *testing.T, body []byte) (taken bool) {
	t.Helper()
	b := whole(body)
	was := bytes.Clone(b)
	p, e := Decode(b)
	if !bytes.Equal(b, was) {
		t.Fatalf("R4: Decode changes what it is handed: %v", was)
	}
	if !modelTakes(body) {
		if e != api.EFORM || !alike(p, Program{}) {
			t.Fatalf("P14.1: Decode(%v): %+v, %v; want error 3", b, p, e)
		}
		return false
	}
	if e != api.OK || !bytes.Equal(whole(modelBody(p)), b) {
		t.Fatalf("P14.1: Decode(%v): %+v, %v; want a program of these bytes", b, p, e)
	}
	return true
}

// TestAllShortBodies hands in all bodies of up to nine of some bytes.
func TestAllShortBodies(t *testing.T) {
	taken := 0
	bodies := [][]byte{nil}
	for len(bodies) > 0 {
		body := bodies[len(bodies)-1]
		bodies = bodies[:len(bodies)-1]
		if wantAsModel(t, body) {
			taken++
		}
		for _, c := range []byte{0, 1, 2, 128} {
			if len(body) < 9 {
				bodies = append(bodies, append(bytes.Clone(body), c))
			}
		}
	}
	if taken < 20 {
		t.Errorf("P14.1: Decode takes %d short bodies alone", taken)
	}
}

// TestChangedBodies hands in bodies with some bytes changed, put in, or left out, with sums that are right.
func TestChangedBodies(t *testing.T) {
	r := rand.New(rand.NewSource(14))
	odd := []byte{0, 1, 2, 3, 127, 128, 129, 255}
	taken := 0
	list := programs()
	for range 60000 {
		body := modelBody(list[r.Intn(len(list))])
		for range 1 + r.Intn(3) {
			at := r.Intn(len(body) + 1)
			switch r.Intn(3) {
			case 0:
				body = slices.Insert(body, at, odd[r.Intn(len(odd))])
			case 1:
				body = slices.Delete(body, at, min(at+1, len(body)))
			default:
				if at < len(body) {
					body[at] = odd[r.Intn(len(odd))]
				}
			}
		}
		if wantAsModel(t, body) {
			taken++
		}
	}
	if taken < 1000 {
		t.Errorf("P14.1: Decode takes %d changed bodies alone", taken)
	}
}

// TestAnyBytes hands in bytes that nobody wrote.
func TestAnyBytes(t *testing.T) {
	r := rand.New(rand.NewSource(15))
	for range 20000 {
		b := make([]byte, r.Intn(40))
		r.Read(b)
		wantNoForm(t, "any bytes", b)
		wantNoForm(t, "any bytes behind the mark", append([]byte("FISC"), b...))
		wantAsModel(t, b)
	}
}
