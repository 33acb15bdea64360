package pack

import (
	"bytes"
	"encoding/binary"
	"math"
	"strings"
	"testing"
)

// numbers are 0, the ends of the range, and the powers of two with those beside them (each seventh is where one more byte begins).
func numbers() []uint64 {
	list := []uint64{0, 300, math.MaxUint64, math.MaxUint64 - 1}
	for i := 0; i < 64; i++ {
		list = append(list, 1<<i-1, 1<<i, 1<<i+1, 5<<i)
	}
	return list
}

// texts are of lengths at which the length takes one byte, two or three, and of bytes that are no letters.
func texts() []string {
	list := []string{"", "ab", "\x00", "\x80\xff\x00\x01", "\u00e9\u4e16"}
	for _, n := range []int{1, 127, 128, 129, 16383, 16384, 16385} {
		list = append(list, strings.Repeat("x", n-1)+"y")
	}
	return list
}

func TestExamples(t *testing.T) {
	cases := []struct {
		told      string
		got, want []byte
	}{
		{"U(nothing, 0)", U(nil, 0), []byte{0}},
		{"U(nothing, 127)", U(nil, 127), []byte{127}},
		{"U(nothing, 128)", U(nil, 128), []byte{128, 1}},
		{"U(nothing, 300)", U(nil, 300), []byte{172, 2}},
		{"U(nothing, the greatest)", U(nil, math.MaxUint64), []byte{255, 255, 255, 255, 255, 255, 255, 255, 255, 1}},
		{"U(nothing, 2^63)", U(nil, 1<<63), []byte{128, 128, 128, 128, 128, 128, 128, 128, 128, 1}},
		{"U(nothing, 2^63 - 1)", U(nil, 1<<63-1), []byte{255, 255, 255, 255, 255, 255, 255, 255, 127}},
		{"U(7 8, 1)", U([]byte{7, 8}, 1), []byte{7, 8, 1}},
		{"I(nothing, 0)", I(nil, 0), []byte{0}},
		{"I(nothing, -1)", I(nil, -1), []byte{1}},
		{"I(nothing, 1)", I(nil, 1), []byte{2}},
		{"I(nothing, -2)", I(nil, -2), []byte{3}},
		{"I(nothing, 63)", I(nil, 63), []byte{126}},
		{"I(nothing, -64)", I(nil, -64), []byte{127}},
		{"I(nothing, 64)", I(nil, 64), []byte{128, 1}},
		{"I(nothing, the greatest)", I(nil, math.MaxInt64), []byte{254, 255, 255, 255, 255, 255, 255, 255, 255, 1}},
		{"I(nothing, the least)", I(nil, math.MinInt64), []byte{255, 255, 255, 255, 255, 255, 255, 255, 255, 1}},
		{"I(200, -3)", I([]byte{200}, -3), []byte{200, 5}},
		{"S(nothing, ab)", S(nil, "ab"), []byte{2, 97, 98}},
		{"S(nothing, nothing)", S(nil, ""), []byte{0}},
		{"S(none, a 0)", S([]byte{}, "\x00"), []byte{1, 0}},
		{"S(1 2, c)", S([]byte{1, 2}, "c"), []byte{1, 2, 1, 99}},
	}
	for _, c := range cases {
		if !bytes.Equal(c.got, c.want) {
			t.Errorf("P3.1: %s: %v; want %v", c.told, c.got, c.want)
		}
	}
}

func TestNumbers(t *testing.T) {
	ahead := []byte{9, 255}
	for _, u := range numbers() {
		if got, want := U(ahead, u), binary.AppendUvarint([]byte{9, 255}, u); !bytes.Equal(got, want) {
			t.Errorf("P3.1: U(9 255, %d): %v; want %v", u, got, want)
		}
		for _, v := range []int64{int64(u), -int64(u)} {
			if got, want := I(ahead, v), binary.AppendVarint([]byte{9, 255}, v); !bytes.Equal(got, want) {
				t.Errorf("P3.1: I(9 255, %d): %v; want %v", v, got, want)
			}
		}
	}
}

func TestTexts(t *testing.T) {
	ahead := []byte{0, 3}
	for _, s := range texts() {
		want := append(binary.AppendUvarint([]byte{0, 3}, uint64(len(s))), s...)
		if got := S(ahead, s); !bytes.Equal(got, want) {
			t.Errorf("P3.1: S(0 3, a text of %d bytes): %d bytes; want %d, or others", len(s), len(got), len(want))
		}
	}
}

// writers are the three calls that write, each with something short and something long.
var writers = map[string]func(b []byte) []byte{
	"U of 5":                func(b []byte) []byte { return U(b, 5) },
	"U of the greatest":     func(b []byte) []byte { return U(b, math.MaxUint64) },
	"I of -5":               func(b []byte) []byte { return I(b, -5) },
	"I of the least":        func(b []byte) []byte { return I(b, math.MinInt64) },
	"S of nothing":          func(b []byte) []byte { return S(b, "") },
	"S of more than a room": func(b []byte) []byte { return S(b, strings.Repeat("z", 200)) },
}

func TestWhatIsHandedInStays(t *testing.T) {
	for told, write := range writers {
		room := bytes.Repeat([]byte{77}, 64)
		write(room[:3])
		if !bytes.Equal(room, bytes.Repeat([]byte{77}, 64)) {
			t.Errorf("R4: %s writes into what it is handed: %v", told, room)
		}
	}
}

func TestWhatIsAnsweredIsNew(t *testing.T) {
	for told, write := range writers {
		room := bytes.Repeat([]byte{77}, 64)
		one, two := write(room[:3]), write(room[:3])
		was := bytes.Clone(two)
		all := one[:cap(one)]
		for i := range all {
			all[i] = 11
		}
		if !bytes.Equal(room, bytes.Repeat([]byte{77}, 64)) || !bytes.Equal(two, was) {
			t.Errorf("R4: what %s answers shares its memory", told)
		}
		if more := append(one, 1); &more[0] == &room[0] {
			t.Errorf("R4: what %s answers lies in what it was handed", told)
		}
	}
}
