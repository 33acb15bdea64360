package verify

import (
	"fmt"
	"math"
	"slices"
	"testing"

	"publican/api"
	"publican/code"
)

func TestExample(t *testing.T) {
	check(t, code.Program{Code: []code.Instr{{Op: 23}}}, "steps 1, stack 0")
	check(t, code.Program{}, "rule 1 at -1")
}

// TestLists checks the first rule: each limit, at it and past it, and each list's kinds.
func TestLists(t *testing.T) {
	const bad, well = "rule 1 at -1", "steps 1, stack 0"
	change := func(want string, do func(p *code.Program)) {
		t.Helper()
		p := built("", "halt")
		do(&p)
		check(t, p, want)
	}
	kinds := func(many int) []api.Kind { return slices.Repeat([]api.Kind{api.Money}, many) }
	for _, past := range []int{0, 1, 1000} {
		want := well
		if past > 0 {
			want = bad
		}
		change(want, func(p *code.Program) { p.Consts = slices.Repeat(p.Consts[:1], 1024+past) })
		change(want, func(p *code.Program) { p.Tables = slices.Repeat(p.Tables[:1], 64+past) })
		change(want, func(p *code.Program) { p.Inputs = kinds(64 + past) })
		change(want, func(p *code.Program) { p.Slots = kinds(64 + past) })
	}
	change(bad, func(p *code.Program) { p.Code = nil })
	change(bad, func(p *code.Program) { p.Names = []string{"a"} })
	change("rule 6 at 0", func(p *code.Program) { p.Outs, p.Names = kinds(1), []string{"a"} })
	change(bad, func(p *code.Program) { p.Outs = kinds(1) })
	change(bad, func(p *code.Program) { p.Outs, p.Names = kinds(1), []string{"a", "b"} })
	change("rule 6 at 0", func(p *code.Program) { p.Outs, p.Names = kinds(64), make([]string, 64) })
	change(bad, func(p *code.Program) { p.Outs, p.Names = kinds(65), make([]string, 65) })
	for _, k := range []api.Kind{math.MinInt, -1, 0, 1, 2, 3, 4, 5, 6, 7, 256 + 3, math.MaxInt} {
		may := map[bool]string{true: well, false: bad}
		change(may[k >= 1 && k <= 6], func(p *code.Program) { p.Inputs = append(p.Inputs, k) })
		change(may[k >= 1 && k <= 5], func(p *code.Program) { p.Slots = append(p.Slots, k) })
		change(may[k >= 1 && k <= 5], func(p *code.Program) { p.Consts = append(p.Consts, api.Value{Kind: k}) })
		change(may[k >= 1 && k <= 5], func(p *code.Program) { p.Tables[1].Val, p.Tables[1].Vals = k, []int64{0} })
		change(may[k == 2 || k == 3 || k == 5], func(p *code.Program) { p.Tables[1].Key = k })
		out := map[bool]string{true: "rule 6 at 0", false: bad}
		change(out[k >= 1 && k <= 5], func(p *code.Program) { p.Outs, p.Names = []api.Kind{k}, []string{"a"} })
	}
}

// TestLength checks how many instructions there are at most.
func TestLength(t *testing.T) {
	one(t, repeated(4095, "jump 0")+"halt", "rule 4 at 0")
	one(t, repeated(2047, "const 0; store 0")+"jump 4095; halt", "steps 4096, stack 1")
	one(t, repeated(2048, "const 0; store 0")+"halt", "rule 1 at -1")
	one(t, repeated(4096, "halt")+"halt", "rule 1 at -1")
}

// TestNumbers checks which numbers constants and tables may have.
func TestNumbers(t *testing.T) {
	const bad, well = "rule 1 at -1", "steps 1, stack 0"
	const money, rate = 1 << 52, 1000000000000
	for _, c := range []struct {
		kind      api.Kind
		low, high int64
	}{{api.Bool, 0, 1}, {api.Count, -money, money}, {api.Money, -money, money}, {api.Rate, -rate, rate}, {api.Date, 0, 109572}} {
		for n, want := range map[int64]string{c.low - 1: bad, c.low: well, c.high: well, c.high + 1: bad, math.MinInt64: bad, math.MaxInt64: bad} {
			p := built("", "halt")
			p.Consts = append(p.Consts, api.Value{Kind: c.kind, N: n})
			check(t, p, want)
			p = built("", "halt")
			p.Tables = append(p.Tables, code.Table{Key: api.Count, Val: c.kind, Keys: []int64{5}, Vals: []int64{n, c.low}})
			check(t, p, want)
			p.Tables[5].Vals = []int64{c.low, n}
			check(t, p, want)
			if c.kind == api.Bool || c.kind == api.Rate {
				continue
			}
			p.Tables[5] = code.Table{Key: c.kind, Val: api.Bool, Keys: []int64{n}, Vals: []int64{0, 0}}
			check(t, p, want)
		}
	}
	p := built("", "halt")
	p.Consts[2].L = []int64{}
	check(t, p, well)
	p.Consts[2].L = []int64{0}
	check(t, p, bad)
}

// TestTables checks the tables' lists: how long they are, and whether the keys rise.
func TestTables(t *testing.T) {
	const bad, well = "rule 1 at -1", "steps 1, stack 0"
	rising := func(many int) []int64 {
		var l []int64
		for i := range many {
			l = append(l, int64(i)*3-20)
		}
		return l
	}
	table := func(keys, vals []int64, want string) {
		t.Helper()
		p := built("", "halt")
		p.Tables = append(p.Tables, code.Table{Key: api.Money, Val: api.Count, Keys: keys, Vals: vals})
		check(t, p, want)
		slices.Reverse(p.Tables)
		check(t, p, want)
	}
	table(rising(31), make([]int64, 32), well)
	table(rising(32), make([]int64, 33), bad)
	table(rising(3), make([]int64, 3), bad)
	table(rising(3), make([]int64, 5), bad)
	table(nil, nil, bad)
	table(nil, make([]int64, 1), well)
	table(nil, make([]int64, 2), bad)
	table([]int64{1, 1}, make([]int64, 3), bad)
	table([]int64{2, 1}, make([]int64, 3), bad)
	table([]int64{1, 2}, make([]int64, 3), well)
	for i := range 30 {
		l := rising(31)
		l[i+1] = l[i]
		table(l, make([]int64, 32), bad)
		l[i+1] = l[i] + 1
		table(l, make([]int64, 32), well)
	}
}

// TestHalts checks the second rule.
func TestHalts(t *testing.T) {
	one(t, "const 0; store 0; halt", "steps 3, stack 1")
	one(t, "const 0", "rule 2 at 0")
	one(t, "const 0; store 0", "rule 2 at 1")
	one(t, "halt; halt", "rule 2 at 0")
	one(t, "halt; const 0", "rule 2 at 0")
	one(t, "const 99; halt; halt; halt", "rule 2 at 1")
	one(t, "const 99; halt; 99", "rule 2 at 1")
	one(t, "const 99; 99", "rule 2 at 1")
	one(t, "24", "rule 2 at 0")
}

// TestOperands checks the third rule: what is named is there, at each list's ends.
func TestOperands(t *testing.T) {
	const many = 12 // slots; there are 7 inputs, 5 constants, 5 tables
	edges := func(name, behind string, at, count int, well func(n int) bool) {
		t.Helper()
		for _, n := range []int{math.MinInt, -1, 0, 1, 2, 3, 4, 5, 6, 7, 8, 9, 10, 11, 12, 13, 63, 64, math.MaxInt - 1, math.MaxInt} {
			p := built("count money", "jump 2; halt; mark 0; const COUNT; out 0; mark 1; const MONEY; out 1; halt")
			p.Code[1] = code.Instr{Op: number(name)}
			*[]*int{&p.Code[1].A, &p.Code[1].B}[at] = n
			if behind == "B" {
				p.Code[1].B = placeNames["ONE"]
			}
			if behind == "A" {
				p.Code[1].A = placeNames["LIST"]
			}
			is := 0 <= n && n < count && well(n)
			_, f, ok := Check(p)
			isThird := !ok && f == Fault{PC: 1, Rule: 3}
			if is == isThird {
				t.Errorf("P17.1: %s: %v, %v, want a fault: %v", shown(p), f, ok, !is)
			}
		}
	}
	every := func(int) bool { return true }
	from := func(least, most int) func(int) bool {
		return func(n int) bool { return least <= n && n <= most }
	}
	edges("const", "", 0, 5, every)
	edges("in", "", 0, 7, from(0, 4))
	edges("load", "", 0, many, every)
	edges("store", "", 0, many, every)
	for _, name := range []string{"add", "sub", "lt", "le", "min", "max"} {
		edges(name, "", 0, 6, from(2, 5))
	}
	for _, name := range []string{"mul", "div", "neg"} {
		edges(name, "", 0, 6, from(2, 4))
	}
	edges("eq", "", 0, 6, from(1, 5))
	edges("len", "", 0, 7, from(5, 6))
	edges("at", "", 0, 5, every)
	edges("mark", "", 0, 2, every)
	edges("out", "", 0, 2, every)
	isPair := func(n int) bool { return slices.Contains([]int{1, 5, 7, 10}, n) }
	for _, name := range []string{"first", "next"} {
		edges(name, "B", 0, 7, from(5, 6))
		edges(name, "A", 1, many-1, isPair)
	}
	for _, op := range []int{math.MinInt, -1, 24, 99, math.MaxInt} {
		p := built("", "jump 2; halt; halt")
		p.Code[1].Op = op
		check(t, p, "rule 3 at 1")
	}
	// The first of two, and all of them ahead of the fourth rule.
	one(t, "jump 0; const 5; in 9; halt", "rule 3 at 1")
	one(t, "jump -1; jump 9; load 12; halt", "rule 3 at 2")
	// Operands that a row does not name are no matter.
	p := built("", "const 0; not; store 0; halt")
	for i := range p.Code {
		p.Code[i].B, p.Code[i].C = -5, math.MaxInt
	}
	p.Code[1].A, p.Code[3].A = 99, -99
	check(t, p, "steps 4, stack 1")
}

// TestWays checks the fourth rule's first sentence.
func TestWays(t *testing.T) {
	one(t, "jump 1; halt", "steps 2, stack 0")
	one(t, "jump 2; halt", "rule 4 at 0")
	one(t, "jump 0; halt", "rule 4 at 0")
	one(t, "jump -1; halt", "rule 4 at 0")
	one(t, "jump 2; jump 2; jump 2; halt", "rule 4 at 2")
	one(t, "jump 4; jump 2; jump 3; halt", "rule 4 at 0")
	one(t, "const BOOL; unless 2; halt", "steps 3, stack 1")
	one(t, "const BOOL; unless 1; halt", "rule 4 at 1")
	one(t, "const BOOL; unless 3; halt", "rule 4 at 1")
	one(t, "const BOOL; unless 0; halt", "rule 4 at 1")
	for _, to := range []int{math.MinInt, math.MinInt + 1, math.MaxInt - 1, math.MaxInt} {
		for _, name := range []string{"jump", "unless"} {
			p := built("", "jump 1; halt")
			p.Code[0] = code.Instr{Op: number(name), A: to}
			check(t, p, "rule 4 at 0")
		}
		for _, name := range []string{"first", "next"} {
			p := built("", "first LIST ONE 2; next LIST ONE 1; halt")
			p.Code[number(name)-19].C = to
			// Of a first the fault is its own; of a next the first, which is ahead, has it.
			check(t, p, "rule 4 at 0")
		}
	}
}

// TestLoops checks the fourth rule's sentences of loops.
func TestLoops(t *testing.T) {
	for text, want := range map[string]string{
		"first LIST ONE 2; next LIST ONE 1; halt":                 "steps 18, stack 0",
		"first OTHER ONE 2; next LIST ONE 1; halt":                "rule 4 at 0",
		"first LIST TWO 2; next LIST ONE 1; halt":                 "rule 4 at 0",
		"first LIST ONE 1; next LIST ONE 1; halt":                 "rule 4 at 0",
		"first LIST ONE 0; next LIST ONE 1; halt":                 "rule 4 at 0",
		"first LIST ONE 3; next LIST ONE 1; halt":                 "rule 4 at 0",
		"first LIST ONE 2; next LIST ONE 0; halt":                 "rule 4 at 0",
		"first LIST ONE 2; next LIST ONE 2; halt":                 "rule 4 at 0",
		"first LIST ONE 2; first LIST TWO 2; halt":                "rule 4 at 0",
		"next LIST ONE 0; halt":                                   "rule 4 at 0",
		"next LIST ONE 1; halt":                                   "rule 4 at 0",
		"jump 1; next LIST ONE 1; halt":                           "rule 4 at 1",
		"jump 1; next LIST ONE 0; halt":                           "rule 4 at 1",
		"jump 1; next LIST ONE 2; halt":                           "rule 4 at 1",
		"jump 1; next LIST ONE -1; halt":                          "rule 4 at 1",
		"jump 1; first LIST ONE 3; jump 3; halt":                  "rule 4 at 1",
		"first LIST ONE 4; jump 2; jump 3; next LIST ONE 1; halt": "steps 50, stack 0",
		"first LIST ONE 4; jump 2; jump 3; next LIST ONE 2; halt": "rule 4 at 0",
		// Two nexts: the one that the first does not name has the fault.
		"first LIST ONE 3; jump 2; next LIST ONE 1; next LIST ONE 1; halt": "rule 4 at 3",
		"first LIST ONE 4; jump 2; next LIST ONE 1; next LIST ONE 1; halt": "rule 4 at 2",
		// Into a loop, and out of it.
		"jump 2; first LIST ONE 4; jump 3; next LIST ONE 2; halt":                                      "rule 4 at 0",
		"jump 3; first LIST ONE 4; jump 3; next LIST ONE 2; halt":                                      "rule 4 at 0",
		"jump 1; first LIST ONE 4; jump 3; next LIST ONE 2; halt":                                      "steps 35, stack 0",
		"jump 4; first LIST ONE 4; jump 3; next LIST ONE 2; halt":                                      "steps 2, stack 0",
		"first LIST ONE 3; jump 3; next LIST ONE 1; halt":                                              "rule 4 at 1",
		"first LIST ONE 4; const BOOL; unless 4; next LIST ONE 1; halt":                                "rule 4 at 2",
		"first LIST ONE 4; const BOOL; unless 3; next LIST ONE 1; halt":                                "steps 50, stack 1",
		"const BOOL; unless 3; first LIST ONE 5; jump 4; next LIST ONE 3; halt":                        "rule 4 at 1",
		"const BOOL; unless 5; first LIST ONE 5; jump 4; next LIST ONE 3; halt":                        "steps 36, stack 1",
		"jump 3; jump 3; first LIST ONE 5; jump 4; next LIST ONE 3; halt":                              "rule 4 at 0",
		"first LIST ONE 3; first LIST TWO 4; next LIST ONE 1; next LIST TWO 2; halt":                   "rule 4 at 0",
		"first LIST ONE 4; first LIST TWO 3; next LIST TWO 2; next LIST ONE 1; halt":                   "steps 290, stack 0",
		"first LIST ONE 5; first LIST TWO 3; next LIST TWO 2; jump 4; next LIST ONE 1; halt":           "steps 306, stack 0",
		"first LIST ONE 5; first LIST TWO 4; jump 4; next LIST TWO 2; next LIST ONE 1; halt":           "rule 4 at 2",
		"first LIST ONE 5; jump 3; first LIST TWO 4; next LIST TWO 3; next LIST ONE 1; halt":           "rule 4 at 1",
		"first LIST ONE 2; next LIST ONE 1; first LIST ONE 4; next LIST ONE 3; halt":                   "steps 35, stack 0",
		"first LIST ONE 3; jump 2; next LIST ONE 1; jump 4; first OTHER ONE 6; next OTHER ONE 5; halt": "steps 52, stack 0",
		"jump 6; first LIST ONE 3; next LIST ONE 2; first LIST ONE 6; jump 5; next LIST ONE 4; halt":   "steps 2, stack 0",
		"jump 5; first LIST ONE 3; next LIST ONE 2; first LIST ONE 6; jump 5; next LIST ONE 4; halt":   "rule 4 at 0",
		"first LIST ONE 3; jump 5; next LIST ONE 1; first LIST TWO 6; jump 5; next LIST TWO 4; halt":   "rule 4 at 1",
		"first LIST ONE 3; next LIST ONE 1; jump 3; first LIST TWO 6; jump 5; next LIST TWO 4; halt":   "rule 4 at 0",
		"first LIST ONE 2; next LIST ONE 1; jump 3; first LIST TWO 6; jump 5; next LIST TWO 4; halt":   "steps 52, stack 0",
		"first LIST ONE 2; next LIST ONE 1; jump 4; first LIST TWO 6; jump 5; next LIST TWO 4; halt":   "rule 4 at 2",
	} {
		one(t, text, want)
	}
}

// TestLoopsSlots checks that nothing in a loop writes to the slots of one that is around.
func TestLoopsSlots(t *testing.T) {
	for slot, kind := range kindsOf(slots) {
		// ONE is the pair of slots 5 and 6, around all; TWO that of 7 and 8, around the inner store.
		text := fmt.Sprintf("first LIST ONE 4; const %d; store %d; next LIST ONE 1; halt", kind-1, slot)
		want := "steps 50, stack 1"
		if slot == 5 || slot == 6 {
			want = "rule 4 at 2"
		}
		one(t, text, want)
		inner := fmt.Sprintf("first LIST ONE 6; first OTHER TWO 5; const %d; store %d; next OTHER TWO 2; next LIST ONE 1; halt", kind-1, slot)
		want = "steps 802, stack 1"
		if slot >= 5 && slot <= 8 {
			want = "rule 4 at 3"
		}
		one(t, inner, want)
		behind := fmt.Sprintf("first LIST ONE 6; first OTHER TWO 3; next OTHER TWO 2; const %d; store %d; next LIST ONE 1; halt", kind-1, slot)
		want = "steps 322, stack 1"
		if slot == 5 || slot == 6 {
			want = "rule 4 at 4"
		}
		one(t, behind, want)
		one(t, fmt.Sprintf("first LIST ONE 2; next LIST ONE 1; const %d; store %d; halt", kind-1, slot), "steps 20, stack 1")
		one(t, fmt.Sprintf("const %d; store %d; first LIST ONE 4; next LIST ONE 3; halt", kind-1, slot), "steps 20, stack 1")
	}
	// Reading is no matter.
	one(t, "first LIST ONE 4; load 6; store MONEY; next LIST ONE 1; halt", "steps 50, stack 1")
	// A first whose slots are one of another's, or both.
	p := built("", "first LIST 1 4; first OTHER 3 3; next OTHER 3 2; next LIST 1 1; halt")
	for _, c := range []struct{ outer, inner, slots, want string }{
		{"1", "4", "bool count money bool count money", "steps 290, stack 0"},
		{"4", "1", "bool count money bool count money", "steps 290, stack 0"},
		{"1", "1", "bool count money bool count money", "rule 4 at 1"},
		{"1", "3", "bool count money count money", "steps 290, stack 0"},
		{"3", "1", "bool count money count money", "steps 290, stack 0"},
	} {
		outer, inner := number(c.outer), number(c.inner)
		p.Slots = kindsOf(c.slots)
		p.Code[0].B, p.Code[3].B, p.Code[1].B, p.Code[2].B = outer, outer, inner, inner
		check(t, p, c.want)
	}
	// The loop around the loop around.
	one(t, "first LIST ONE 6; first LIST TWO 5; first LIST ONE 4; next LIST ONE 3; next LIST TWO 2; next LIST ONE 1; halt", "rule 4 at 2")
	one(t, "first LIST ONE 6; first LIST TWO 5; first LIST TWO 4; next LIST TWO 3; next LIST TWO 2; next LIST ONE 1; halt", "rule 4 at 2")
	one(t, "first LIST ONE 6; first LIST TWO 5; first LIST THREE 4; next LIST THREE 3; next LIST TWO 2; next LIST ONE 1; halt", "steps 4642, stack 0")
}
