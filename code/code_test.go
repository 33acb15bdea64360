package code

import (
	"fmt"
	"math"
	"slices"
	"strings"
	"testing"

	"publican/api"
)

// chapterRows are the numbers, names and operands of the chapter's table.
const chapterRows = `
0 const A
1 in A
2 load A
3 store A
4 add A
5 sub A
6 mul A
7 div A
8 neg A
9 not
10 lt A
11 le A
12 eq A
13 min A
14 max A
15 len A
16 at A
17 jump A
18 unless A
19 first A B C
20 next A B C
21 mark A
22 out A
23 halt
`

// otherOps are numbers of no instruction.
var otherOps = []int{-1, -2, 24, 25, 255, 256, -256, 1 << 32, 1<<32 + 4, math.MaxInt, math.MinInt}

func TestRows(t *testing.T) {
	lines := strings.Split(strings.TrimSpace(chapterRows), "\n")
	if len(lines) != 24 {
		t.Fatalf("%d rows; want 24", len(lines))
	}
	for op, line := range lines {
		fields := strings.Fields(line)
		if fields[0] != fmt.Sprint(op) {
			t.Fatalf("row %d: %s", op, line)
		}
		if got := Name(op); got != fields[1] {
			t.Errorf("P14.1: Name(%d): %q; want %q", op, got, fields[1])
		}
		for _, v := range [][3]int{{0, 0, 0}, {1, 2, 3}, {-1, -20, -300}, {math.MaxInt, math.MinInt, math.MaxInt - 1}} {
			i := Instr{op, v[0], v[1], v[2]}
			want := fields[1]
			for k := range fields[2:] {
				want += fmt.Sprintf(" %d", v[k])
			}
			if got := Show(i); got != want {
				t.Errorf("P14.1: Show(%v): %q; want %q", i, got, want)
			}
		}
	}
}

func TestExampleOfShow(t *testing.T) {
	if got := Show(Instr{4, 3, 0, 0}); got != "add 3" {
		t.Errorf("P14.1: Show of add 3: %q", got)
	}
}

func TestOtherNumbers(t *testing.T) {
	for _, op := range otherOps {
		if got := Name(op); got != "" {
			t.Errorf("P14.1: Name(%d): %q; want nothing", op, got)
		}
		if got := Show(Instr{op, 1, 2, 3}); got != "" {
			t.Errorf("P14.1: Show of number %d: %q; want nothing", op, got)
		}
	}
}

// different are programs of which no two have the same bytes.
func different() []Program {
	kinds := func(l ...api.Kind) []api.Kind { return l }
	return []Program{
		{},
		{Consts: []api.Value{{}}},
		{Consts: []api.Value{{Kind: api.Bool}}},
		{Consts: []api.Value{{N: 1}}},
		{Consts: []api.Value{{}, {}}},
		{Consts: []api.Value{{Kind: api.Money, N: -7}, {Kind: api.Date, N: 9}}},
		{Consts: []api.Value{{Kind: api.Date, N: 9}, {Kind: api.Money, N: -7}}},
		{Tables: []Table{{}}},
		{Tables: []Table{{Key: api.Count}}},
		{Tables: []Table{{Val: api.Count}}},
		{Tables: []Table{{Keys: []int64{1}}}},
		{Tables: []Table{{Vals: []int64{1}}}},
		{Tables: []Table{{Keys: []int64{1}, Vals: []int64{2, 3}}}},
		{Tables: []Table{{Keys: []int64{1, 2}, Vals: []int64{3}}}},
		{Tables: []Table{{Keys: []int64{1, 2}}, {Vals: []int64{3}}}},
		{Inputs: kinds(1)},
		{Outs: kinds(1)},
		{Slots: kinds(1)},
		{Inputs: kinds(1), Outs: kinds(2), Slots: kinds(3)},
		{Inputs: kinds(1, 2), Slots: kinds(3)},
		{Inputs: kinds(2, 1), Slots: kinds(3)},
		{Names: []string{""}},
		{Names: []string{"", ""}},
		{Names: []string{"ab"}},
		{Names: []string{"a", "b"}},
		{Names: []string{"b", "a"}},
		{Names: []string{"\xff\x00"}},
		{Code: []Instr{{}}},
		{Code: []Instr{{Op: 1}}},
		{Code: []Instr{{A: 1}}},
		{Code: []Instr{{B: 1}}},
		{Code: []Instr{{C: 1}}},
		{Code: []Instr{{Op: 23, A: 1}}},
		{Code: []Instr{{Op: 23, C: 1}}},
		{Code: []Instr{{}, {}}},
	}
}

func TestSame(t *testing.T) {
	for i, p := range different() {
		for k, q := range different() {
			if got := Same(p, q); got != (i == k) {
				t.Errorf("P14.1: Same of %+v and %+v: %v", p, q, got)
			}
		}
	}
}

func TestSameHangsOnBytesAlone(t *testing.T) {
	one := full()
	two := full()
	two.Consts[0].L = []int64{5, 6}
	two.Consts[1].L = []int64{}
	two.Names = slices.Grow(two.Names, 9)
	if !Same(one, two) || !Same(two, one) {
		t.Errorf("P14.1: Same hangs on what is not written")
	}
	empty := Program{
		Consts: []api.Value{}, Tables: []Table{}, Inputs: []api.Kind{}, Outs: []api.Kind{},
		Slots: []api.Kind{}, Names: []string{}, Code: []Instr{},
	}
	if !Same(empty, Program{}) {
		t.Errorf("R4: Same takes an empty list for another than nil")
	}
}
