package mach

import (
	"fmt"
	"math"
	"reflect"
	"slices"
	"strconv"
	"strings"
	"testing"

	"publican/api"
	"publican/code"
	"publican/verify"
)

var kindNames = []string{"none", "bool", "count", "money", "rate", "date", "moneys"}

// built reads a program: outputs' kinds parted by blanks, and instructions parted by semicolons. Its inputs are those of given; the slots are
// one of each kind, and from 5 on two pairs for loops; the constants stand in the instructions, as in "const money 5".
func built(outs, text string) code.Program {
	p := code.Program{
		Inputs: []api.Kind{api.Bool, api.Count, api.Money, api.Rate, api.Date, api.List, api.List},
		Slots:  []api.Kind{api.Bool, api.Count, api.Money, api.Rate, api.Date, api.Count, api.Money, api.Count, api.Money},
		Tables: []code.Table{
			{Key: api.Count, Val: api.Money, Keys: []int64{-3, 0, 10}, Vals: []int64{100, 200, 300, 400}},
			{Key: api.Date, Val: api.Bool, Vals: []int64{1}},
		},
	}
	for i, k := range strings.Fields(outs) {
		p.Outs = append(p.Outs, kind(k))
		p.Names = append(p.Names, fmt.Sprint("out", i))
	}
	for _, s := range strings.Split(text, ";") {
		words := strings.Fields(s)
		i := code.Instr{}
		for code.Name(i.Op) != words[0] {
			i.Op++
		}
		if words[0] == "const" {
			n, _ := strconv.ParseInt(words[2], 10, 64)
			p.Consts = append(p.Consts, api.Value{Kind: kind(words[1]), N: n})
			words = []string{"const", strconv.Itoa(len(p.Consts) - 1)}
		}
		for k, w := range words[1:] {
			n, e := strconv.Atoi(w)
			if e != nil {
				n = int(kind(w))
			}
			*[]*int{&i.A, &i.B, &i.C}[k] = n
		}
		p.Code = append(p.Code, i)
	}
	return p
}

func kind(name string) api.Kind { return api.Kind(slices.Index(kindNames, name)) }

// given has a value for each input.
func given() []api.Value {
	return []api.Value{
		{Kind: api.Bool, N: 1}, {Kind: api.Count, N: -7}, {Kind: api.Money, N: 1000}, {Kind: api.Rate, N: 75000}, {Kind: api.Date, N: 40000},
		{Kind: api.List, L: []int64{300, -100, 50}}, {Kind: api.List},
	}
}

// told tells what came of a program.
func told(p code.Program, in []api.Value) string {
	o, e := Run(p, in)
	if e != api.OK {
		if !reflect.DeepEqual(o, Out{}) {
			return fmt.Sprintf("R2: beside an error: %v", o)
		}
		return fmt.Sprint("refused: ", e)
	}
	if b, _, ok := verify.Check(p); !ok || o.Steps > b.Steps {
		return fmt.Sprintf("P18.2: %d steps, at most %d", o.Steps, b.Steps)
	}
	if o.Err != api.OK {
		return fmt.Sprintf("%v at %q, steps %d%s", o.Err, o.Rule, o.Steps, strings.Repeat(", and values", len(o.Values)))
	}
	var l []string
	for _, v := range o.Values {
		l = append(l, fmt.Sprint(kindNames[v.Kind], " ", v.N, strings.Repeat("!", len(v.L))))
	}
	return fmt.Sprintf("%s, steps %d%s", strings.Join(l, ", "), o.Steps, o.Rule)
}

func run(t *testing.T, outs, text, want string) {
	t.Helper()
	if got := told(built(outs, text), given()); got != want {
		t.Errorf("P18.1: %s: %s, want %s", text, got, want)
	}
}

// value checks what a piece puts on the stack, which is the output.
func value(t *testing.T, kind, text, want string) {
	t.Helper()
	steps := strings.Count(text, ";") + 1
	if strings.HasPrefix(want, "error") {
		want = fmt.Sprintf("%s at \"out0\", steps %d", want, steps+1)
	} else {
		want = fmt.Sprintf("%s %s, steps %d", kind, want, steps+3)
	}
	run(t, kind, "mark 0; "+text+"; out 0; halt", want)
}

func TestExample(t *testing.T) {
	value(t, "money", "const money 700", "700")
	run(t, "", "halt", ", steps 1")
}

// TestValues checks the instructions that put what is there.
func TestValues(t *testing.T) {
	for i, want := range []string{"1", "-7", "1000", "75000", "40000"} {
		value(t, kindNames[i+1], fmt.Sprint("in ", i), want)
		value(t, kindNames[i+1], fmt.Sprint("load ", i), "0")
		value(t, kindNames[i+1], fmt.Sprintf("in %d; store %d; load %d", i, i, i), want)
	}
	value(t, "count", "const count 5; const count 6; store 1; store 5; load 1", "6")
	value(t, "count", "const count 5; const count 6; store 1; store 5; load 5", "5")
	value(t, "count", "len 5", "3")
	value(t, "count", "len 6", "0")
	for key, want := range map[int]string{-1000: "100", -4: "100", -3: "100", -2: "200", -1: "200", 0: "200", 1: "300", 9: "300", 10: "300", 11: "400", 1000: "400"} {
		value(t, "money", fmt.Sprint("const count ", key, "; at 0"), want)
	}
	value(t, "bool", "in 4; at 1", "1")
}

// TestOperators checks each with its operands' order, and mean's errors.
func TestOperators(t *testing.T) {
	const most, rate = "4503599627370496", "1000000000000"
	for _, c := range []struct{ kind, text, want string }{
		{"count", "const count 7; const count 2; add count", "9"},
		{"money", "const money 7; const money 2; add money", "9"},
		{"rate", "const rate 7; const rate 2; add rate", "9"},
		{"date", "const date 7; const count 2; add date", "9"},
		{"date", "const date 7; const count -8; add date", "error 12"},
		{"count", "const count " + most + "; const count 1; add count", "error 10"},
		{"rate", "const rate " + rate + "; const rate 1; add rate", "error 10"},
		{"count", "const count 7; const count 2; sub count", "5"},
		{"count", "const date 2; const date 7; sub count", "-5"},
		{"date", "const date 7; const count 2; sub date", "5"},
		{"date", "const date 109572; const count -1; sub date", "error 12"},
		{"money", "const money -" + most + "; const money 1; sub money", "error 10"},
		{"rate", "const rate 2; const rate 7; sub rate", "-5"},
		{"count", "const count 7; const count -2; mul count", "-14"},
		{"money", "const count 7; const money -2; mul money", "-14"},
		{"money", "const money 1001; const rate 75000; mul money", "75"},
		{"money", "const rate 75000; const money -1001; mul money", "-76"},
		{"rate", "const rate 7; const count 2; mul rate", "14"},
		{"rate", "const count 2; const rate 7; mul rate", "14"},
		{"count", "const count " + most + "; const count 2; mul count", "error 10"},
		{"count", "const count 7; const count 2; div count", "3"},
		{"count", "const count 7; const count -2; div count", "-4"},
		{"money", "const money 7; const count 3; div money", "2"},
		{"rate", "const money 1; const money 3; div rate", "333333"},
		{"rate", "const money 1; const money -3; div rate", "-333334"},
		{"count", "const count 7; const count 0; div count", "error 11"},
		{"rate", "const money 7; const money 0; div rate", "error 11"},
		{"count", "const count 7; neg count", "-7"},
		{"money", "const money -7; neg money", "7"},
		{"rate", "const rate 7; neg rate", "-7"},
		{"bool", "const bool 1; not", "0"},
		{"bool", "const bool 0; not", "1"},
		{"count", "const count 7; const count 2; min count", "2"},
		{"date", "const date 7; const date 2; max date", "7"},
		{"money", "const money -7; const money 2; max money", "2"},
	} {
		value(t, c.kind, c.text, c.want)
	}
	for _, k := range []string{"bool", "count", "money", "rate", "date"} {
		for a := range 2 {
			for b := range 2 {
				text := fmt.Sprintf("const %s %d; const %s %d; ", k, a, k, b)
				bit := map[bool]string{true: "1", false: "0"}
				value(t, "bool", text+"eq "+k, bit[a == b])
				if k != "bool" {
					value(t, "bool", text+"lt "+k, bit[a < b])
					value(t, "bool", text+"le "+k, bit[a <= b])
				}
			}
		}
	}
}

// TestWays checks jumps, and how many steps are counted.
func TestWays(t *testing.T) {
	run(t, "", "jump 3; const count 1; store 1; halt", ", steps 2")
	run(t, "count", "mark 0; const bool 0; unless 5; const count 1; jump 6; const count 2; out 0; halt", "count 2, steps 6")
	run(t, "count", "mark 0; const bool 1; unless 5; const count 1; jump 6; const count 2; out 0; halt", "count 1, steps 7")
	run(t, "count money", "mark 1; in 2; out 1; mark 0; in 1; out 0; halt", "count -7, money 1000, steps 7")
}

// TestLoops checks first and next, what they leave in their slots, and loops within loops.
func TestLoops(t *testing.T) {
	// The sum of the list, and the slots behind it.
	run(t, "money", "mark 0; const money 0; first 5 5 6; load 6; add money; next 5 5 3; out 0; halt", "money 250, steps 14")
	run(t, "money", "mark 0; const money 0; first 6 5 6; load 6; add money; next 6 5 3; out 0; halt", "money 0, steps 5")
	run(t, "count money", "first 5 5 2; next 5 5 1; mark 0; load 5; out 0; mark 1; load 6; out 1; halt", "count 3, money 50, steps 11")
	// A first without one leaves its slots as they are.
	run(t, "count money", "const count 9; store 5; const money 8; store 6; first 6 5 6; next 6 5 5; mark 0; load 5; out 0; mark 1; load 6; out 1; halt", "count 9, money 8, steps 12")
	run(t, "count money", "const count 9; store 5; const money 8; store 6; first 5 5 6; next 5 5 5; mark 0; load 5; out 0; mark 1; load 6; out 1; halt", "count 3, money 50, steps 15")
	// Within the loop the count is of those ahead: 0 + 1 + 2.
	run(t, "count", "mark 0; const count 0; first 5 5 6; load 5; add count; next 5 5 3; out 0; halt", "count 3, steps 14")
	// Each of three, less each of three: nothing; and as many times.
	run(t, "money", "mark 0; const money 0; first 5 5 10; first 5 7 9; load 6; load 8; sub money; add money; next 5 7 4; next 5 5 3; out 0; halt", "money 0, steps 56")
	run(t, "count", "mark 0; const count 0; first 5 5 8; first 5 7 7; const count 1; add count; next 5 7 4; next 5 5 3; out 0; halt", "count 9, steps 38")
	run(t, "count", "mark 0; const count 0; first 5 5 8; first 6 7 7; const count 1; add count; next 6 7 4; next 5 5 3; out 0; halt", "count 0, steps 11")
	run(t, "count", "mark 0; const count 0; first 6 5 8; first 5 7 7; const count 1; add count; next 5 7 4; next 6 5 3; out 0; halt", "count 0, steps 5")
	// As long as a list may be.
	in := given()
	in[5].L = make([]int64, api.MaxList)
	for i := range in[5].L {
		in[5].L[i] = int64(i)
	}
	p := built("money", "mark 0; const money 0; first 5 5 6; load 6; add money; next 5 5 3; out 0; halt")
	b, _, _ := verify.Check(p)
	if got := told(p, in); got != "money 120, steps 53" || b.Steps != 53 {
		t.Errorf("P18.1: the longest list: %s, bound %v", got, b)
	}
}

// TestErrors checks what an error tells: the mark that was done last, whatever it is, and the steps.
func TestErrors(t *testing.T) {
	const zero = "const count 1; const count 0; div count; "
	run(t, "", zero+"store 1; halt", `error 11 at "", steps 3`)
	run(t, "count", zero+"store 1; mark 0; in 1; out 0; halt", `error 11 at "", steps 3`)
	run(t, "count count", "mark 1; in 1; out 1; mark 0; "+zero+"out 0; halt", `error 11 at "out0", steps 7`)
	run(t, "count count", "mark 0; in 1; out 0; mark 1; in 1; out 1; "+zero+"store 1; halt", `error 11 at "out1", steps 9`)
	run(t, "count count", "mark 0; mark 1; jump 3; "+zero+"out 1; mark 0; in 1; out 0; halt", `error 11 at "out1", steps 6`)
	run(t, "money", "mark 0; const money 1; first 5 5 7; const money 200; load 6; add money; next 5 5 3; out 0; halt", "refused: error 9")
	// In a loop's second turn: 700 by 7, then by 0.
	in := given()
	in[5].L = []int64{7, 0, 7}
	p := built("rate", "mark 0; first 5 5 6; const money 700; load 6; div rate; store 3; jump 6; next 5 5 2; load 3; out 0; halt")
	p.Code[1].C = 8
	p.Code[6].A = 7
	if got := told(p, in); got != `error 11 at "out0", steps 11` {
		t.Errorf("P18.1: an error in a loop: %s", got)
	}
	in[5].L = []int64{7, 7}
	if got := told(p, in); got != "rate 100000000, steps 17" {
		t.Errorf("P18.1: no error in a loop: %s", got)
	}
}

// TestRefused checks which programs and values are refused, and in which order.
func TestRefused(t *testing.T) {
	p := built("count", "mark 0; in 1; out 0; halt")
	refused := func(p code.Program, in []api.Value, want api.Errno) {
		t.Helper()
		if got := told(p, in); got != fmt.Sprint("refused: ", want) {
			t.Errorf("P18.1: %v of %v: %s, want %v", p.Code, in, got, want)
		}
	}
	for _, bad := range []code.Program{{}, built("count", "halt"), built("", "in 9; halt"), built("", "in 1; halt")} {
		refused(bad, given(), api.EBAD)
		refused(bad, nil, api.EBAD)
	}
	refused(p, nil, api.EARG)
	refused(p, given()[:6], api.EARG)
	refused(p, append(given(), api.Value{Kind: api.Count}), api.EARG)
	for i, v := range given() {
		for k := api.None - 1; k <= api.List+1; k++ {
			if in := given(); k != v.Kind {
				in[i].Kind = k
				refused(p, in, api.EARG)
			}
		}
		for _, n := range []int64{math.MinInt64, -1 << 53, 1 << 53, math.MaxInt64} {
			in := given()
			in[i].N = n
			refused(p, in, api.EARG)
		}
	}
	for _, change := range []func(in []api.Value){
		func(in []api.Value) { in[0].N = 2 },
		func(in []api.Value) { in[0].N = -1 },
		func(in []api.Value) { in[1].N = api.MaxMoney + 1 },
		func(in []api.Value) { in[2].N = -api.MaxMoney - 1 },
		func(in []api.Value) { in[3].N = 1000000000001 },
		func(in []api.Value) { in[4].N = api.MaxDay + 1 },
		func(in []api.Value) { in[4].N = -1 },
		func(in []api.Value) { in[1].L = []int64{1} },
		func(in []api.Value) { in[5].N = 1 },
		func(in []api.Value) { in[5].L = make([]int64, api.MaxList+1) },
		func(in []api.Value) { in[6].L = []int64{0, api.MaxMoney + 1} },
	} {
		in := given()
		change(in)
		refused(p, in, api.EARG)
	}
	in := given()
	in[1].L, in[6].L = []int64{}, []int64{}
	if got := told(p, in); got != "count -7, steps 4" {
		t.Errorf("P18.1: empty lists: %s", got)
	}
}

func TestBytes(t *testing.T) {
	p := built("count", "mark 0; in 1; out 0; halt")
	b := code.Encode(p)
	if o, e := Bytes(b, given()); e != api.OK || fmt.Sprint(o) != fmt.Sprint(Out{Values: []api.Value{{Kind: api.Count, N: -7}}, Steps: 4}) {
		t.Errorf("P18.1: Bytes: %v, %v", o, e)
	}
	is := func(b []byte, in []api.Value, want api.Errno) {
		t.Helper()
		if o, e := Bytes(b, in); e != want || !reflect.DeepEqual(o, Out{}) {
			t.Errorf("P18.1: Bytes: %v, %v, want %v", o, e, want)
		}
	}
	is(nil, given(), api.EFORM)
	for cut := range b {
		is(b[:cut], nil, api.EFORM)
		turned := slices.Clone(b)
		turned[cut] ^= 4
		is(turned, given(), api.EFORM)
	}
	is(b, nil, api.EARG)
	is(code.Encode(code.Program{}), nil, api.EBAD)
	is(code.Encode(built("count", "mark 0; out 0; halt")), nil, api.EBAD)
}

// TestMemory checks R4 and R5: nothing that is handed in is changed or answered, and a second run is as the first.
func TestMemory(t *testing.T) {
	const text = "const count 3; store 1; first 5 5 6; load 6; store 2; next 5 5 3; mark 0; load 1; out 0; mark 1; load 2; out 1; mark 2; in 1; out 2; halt"
	p, in := built("count money count", text), given()
	in[5].L = append(in[5].L, 77)[:3]
	in[1].L = make([]int64, 0, 3)
	one, _ := Run(p, in)
	two, _ := Run(p, in)
	for i := range one.Values {
		if one.Values[i].L != nil {
			t.Errorf("R4: value %d has a list", i)
		}
		one.Values[i] = api.Value{Kind: 99}
	}
	for _, v := range two.Values[len(two.Values):cap(two.Values)] {
		if v.Kind != 0 {
			t.Errorf("R4: spare room: %v", v)
		}
	}
	if fmt.Sprint(two) != "{[{2 3 []} {3 50 []} {2 -7 []}] error 0  22}" {
		t.Errorf("R4, R5: %v", two)
	}
	in[1].L = nil
	if !reflect.DeepEqual(p, built("count money count", text)) || !reflect.DeepEqual(in, given()) || in[5].L[:4][3] != 77 {
		t.Errorf("R4: what was handed in is changed")
	}
}
