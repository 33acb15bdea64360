package pack

import (
	"bytes"
	"encoding/binary"
	"math"
	"testing"
)

// canonical tells, by the library, the number that b begins with and its length, if it is just as the library writes it.
func canonical(b []byte) (uint64, int) {
	u, n := binary.Uvarint(b)
	if n <= 0 || !bytes.Equal(binary.AppendUvarint(nil, u), b[:n]) {
		return 0, 0
	}
	return u, n
}

// wantSpent looks whether a Reader is bad, and stays so.
func wantSpent(t *testing.T, told string, r *Reader) {
	t.Helper()
	for range 3 {
		if !r.Bad() || r.Left() != 0 {
			t.Fatalf("P3.2: %s: bad: %v, %d left; want it bad, and none left", told, r.Bad(), r.Left())
		}
		if u, v, s := r.U(), r.I(), r.S(); u != 0 || v != 0 || s != "" {
			t.Fatalf("P3.2: %s: it still reads %d, %d and %q", told, u, v, s)
		}
	}
}

// wantNumber looks what U and I read of b, against the library.
func wantNumber(t *testing.T, b []byte) {
	t.Helper()
	want, n := canonical(b)
	r, signed := Read(b), Read(b)
	u, v := r.U(), signed.I()
	if n == 0 {
		if u != 0 || v != 0 {
			t.Fatalf("P3.2: of %v: %d and %d; want 0", b, u, v)
		}
		wantSpent(t, "U of what can't be read", r)
		wantSpent(t, "I of what can't be read", signed)
		return
	}
	if u != want || r.Bad() || r.Left() != len(b)-n {
		t.Fatalf("P3.2: U of %v: %d, bad: %v, %d left; want %d, and %d left", b, u, r.Bad(), r.Left(), want, len(b)-n)
	}
	if w, _ := binary.Varint(b); v != w || signed.Bad() || signed.Left() != len(b)-n {
		t.Fatalf("P3.2: I of %v: %d, bad: %v, %d left; want %d, and %d left", b, v, signed.Bad(), signed.Left(), w, len(b)-n)
	}
}

func TestShortNumbers(t *testing.T) {
	wantNumber(t, nil)
	wantNumber(t, []byte{})
	for i := range 256 {
		wantNumber(t, []byte{byte(i)})
		for k := range 256 {
			wantNumber(t, []byte{byte(i), byte(k)})
			for _, c := range []byte{0, 1, 127, 128, 255} {
				wantNumber(t, []byte{byte(i), byte(k), c})
			}
		}
	}
}

func TestLongNumbers(t *testing.T) {
	for n := 0; n <= 12; n++ {
		for _, each := range []byte{128, 129, 255} {
			for last := range 256 {
				b := append(bytes.Repeat([]byte{each}, n), byte(last))
				wantNumber(t, b)
				wantNumber(t, append(b, 0))
				wantNumber(t, append(b, 1, 2))
			}
		}
	}
}

func TestWhatIsWrittenIsRead(t *testing.T) {
	var b []byte
	for _, u := range numbers() {
		b = I(I(U(b, u), int64(u)), -int64(u))
	}
	for _, s := range texts() {
		b = S(b, s)
	}
	r := Read(b)
	for _, u := range numbers() {
		if a, v, w := r.U(), r.I(), r.I(); a != u || v != int64(u) || w != -int64(u) {
			t.Fatalf("P3.2: %d, %d and %d; want %d, %d and %d", a, v, w, u, int64(u), -int64(u))
		}
	}
	for _, s := range texts() {
		before := r.Left()
		if got := r.S(); got != s || before-r.Left() != len(S(nil, s)) {
			t.Fatalf("P3.2: a text of %d bytes, %d bytes further; want one of %d", len(got), before-r.Left(), len(s))
		}
	}
	if r.Bad() || r.Left() != 0 {
		t.Fatalf("P3.2: at the end: bad: %v, %d left; want neither", r.Bad(), r.Left())
	}
	if u := r.U(); u != 0 {
		t.Errorf("P3.2: past the end: %d; want 0", u)
	}
	wantSpent(t, "past the end", r)
}

func TestTextsThatAreNotWhole(t *testing.T) {
	bad := [][]byte{
		nil, {1}, {2, 65}, {3, 65, 66}, {128}, {128, 0}, {129, 0, 65}, {128, 1, 65},
		append(U(nil, math.MaxUint64), 65), append(U(nil, 1<<63), 65), append(U(nil, 1<<63-1), 65),
		append(U(nil, 1<<32), 65), append(U(nil, 1<<32+1), 65, 66), append(U(nil, 1<<31), 65),
		{255, 255, 255, 255, 255, 255, 255, 255, 255, 2, 65},
	}
	for _, b := range bad {
		r := Read(b)
		if s := r.S(); s != "" {
			t.Errorf("P3.2: S of %v: %q; want nothing", b, s)
		}
		wantSpent(t, "S of what can't be read", r)
	}
	whole := S(nil, string(bytes.Repeat([]byte{200}, 300)))
	for n := range whole {
		r := Read(whole[:n])
		if s := r.S(); s != "" {
			t.Errorf("P3.2: S of the first %d bytes: %d bytes; want none", n, len(s))
		}
		wantSpent(t, "S of a text cut short", r)
	}
}

func TestTextsThatAreWhole(t *testing.T) {
	r := Read([]byte{0, 2, 65, 255, 0, 1, 0, 9})
	for i, want := range []string{"", "A\xff", "", "\x00"} {
		if got := r.S(); got != want || r.Bad() {
			t.Errorf("P3.2: text %d: %q, bad: %v; want %q", i, got, r.Bad(), want)
		}
	}
	if r.Left() != 1 {
		t.Errorf("P3.2: %d left; want 1", r.Left())
	}
	if s := r.S(); s != "" {
		t.Errorf("P3.2: S of 9: %q; want nothing", s)
	}
	wantSpent(t, "a text of nine bytes that are not there", r)
}

func TestBadOnceIsBadForEver(t *testing.T) {
	good := S(I(U(nil, 5), 6), "seven")
	for _, b := range [][]byte{{128, 0}, {255, 255, 255, 255, 255, 255, 255, 255, 255, 2}} {
		for told, read := range map[string]func(r *Reader){
			"U": func(r *Reader) { r.U() },
			"I": func(r *Reader) { r.I() },
			"S": func(r *Reader) { r.S() },
		} {
			r := Read(append(append(U(nil, 1), b...), good...))
			if u := r.U(); u != 1 || r.Bad() || r.Left() != len(b)+len(good) {
				t.Fatalf("P3.2: %d, bad: %v, %d left; want 1, and %d left", u, r.Bad(), r.Left(), len(b)+len(good))
			}
			read(r)
			wantSpent(t, "behind a number that can't be read by "+told, r)
		}
	}
}

func TestLookingChangesNothing(t *testing.T) {
	r := Read([]byte{3, 4})
	for range 3 {
		if r.Left() != 2 || r.Bad() {
			t.Fatalf("P3.2: %d left, bad: %v; want 2, and not bad", r.Left(), r.Bad())
		}
	}
	if u := r.U(); u != 3 || r.Left() != 1 {
		t.Errorf("P3.2: %d, %d left; want 3, and 1 left", u, r.Left())
	}
	empty := Read(nil)
	if empty.Left() != 0 || empty.Bad() {
		t.Errorf("P3.2: of nothing: %d left, bad: %v; want 0, and not bad yet", empty.Left(), empty.Bad())
	}
}

func TestReaderKeepsNothingOfTheCaller(t *testing.T) {
	b := []byte{2, 65, 66, 2, 67, 68}
	r, other := Read(b), Read(b)
	first := r.S()
	clear(b)
	if got := first + r.S(); got != "ABCD" {
		t.Errorf("R4: Read keeps what it is handed: %q; want ABCD", got)
	}
	if got := other.S() + other.S(); got != "ABCD" {
		t.Errorf("R4: one Reader's reading is another's: %q; want ABCD", got)
	}
	room := []byte{5, 6, 7}
	cut := Read(room[:1])
	if cut.U(); cut.U() != 0 || !cut.Bad() {
		t.Errorf("R4: Read takes the spare room for its own")
	}
	if !bytes.Equal(room, []byte{5, 6, 7}) {
		t.Errorf("R4: reading changes what was handed in: %v", room)
	}
}
