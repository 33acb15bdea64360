package verify

import (
	"fmt"
	"strings"
	"testing"

	"publican/api"
)

// sentences has what the chapter says of an operator: its name, its kind A, what it takes (the top last).
const sentences = `
add count: count count | add money: money money | add rate: rate rate | add date: date count
sub count: count count | sub count: date date | sub money: money money | sub rate: rate rate | sub date: date count
mul count: count count | mul money: money count | mul money: count money | mul money: money rate | mul money: rate money
mul rate: rate count | mul rate: count rate
div count: count count | div money: money count | div rate: money money
neg count: count | neg money: money | neg rate: rate
lt count: count count | lt money: money money | lt rate: rate rate | lt date: date date
le count: count count | le money: money money | le rate: rate rate | le date: date date
eq bool: bool bool | eq count: count count | eq money: money money | eq rate: rate rate | eq date: date date
min count: count count | min money: money money | min rate: rate rate | min date: date date
max count: count count | max money: money money | max rate: rate rate | max date: date date`

// said holds the sentences, each at its own words.
func said() map[string]bool {
	m := map[string]bool{}
	for _, line := range strings.Split(strings.TrimSpace(sentences), "\n") {
		for _, s := range strings.Split(line, " | ") {
			m[s] = true
		}
	}
	return m
}

// putsKind tells the kind of what an operator puts.
func putsKind(name, kind string) string {
	if name == "lt" || name == "le" || name == "eq" {
		return "bool"
	}
	return kind
}

// TestOperators checks each operator with each of its kinds on all stacks of one and two, with something below and without.
func TestOperators(t *testing.T) {
	said := said()
	for _, name := range []string{"add", "sub", "mul", "div", "neg", "lt", "le", "eq", "min", "max"} {
		for a := range 7 {
			p := built("", "jump 2; halt; halt")
			if p.Code[1].Op, p.Code[1].A = number(name), a; told(p) == "rule 3 at 1" {
				continue
			}
			for _, first := range kindNames[1:6] {
				operator(t, said, name, kindNames[a], first)
				for _, second := range kindNames[1:6] {
					operator(t, said, name, kindNames[a], first, second)
					for _, third := range kindNames[1:6] {
						operator(t, said, name, kindNames[a], first, second, third)
					}
				}
			}
			operator(t, said, name, kindNames[a])
		}
	}
}

// operator checks one on such a stack; behind it all that is left is stored.
func operator(t *testing.T, said map[string]bool, name, a string, stack ...string) {
	t.Helper()
	text := ""
	for _, k := range stack {
		text += "const " + strings.ToUpper(k) + "; "
	}
	text += fmt.Sprint(name, " ", a, "; ")
	for many := range len(stack) + 1 {
		if !said[fmt.Sprint(name, " ", a, ": ", strings.Join(stack[many:], " "))] {
			continue
		}
		text += "store " + strings.ToUpper(putsKind(name, a)) + "; "
		for i := many - 1; i >= 0; i-- {
			text += "store " + strings.ToUpper(stack[i]) + "; "
		}
		one(t, text+"halt", fmt.Sprintf("steps %d, stack %d", strings.Count(text, ";")+1, len(stack)))
		return
	}
	one(t, text+"halt", fmt.Sprint("rule 5 at ", len(stack)))
}

// TestStack checks what the other instructions take and put.
func TestStack(t *testing.T) {
	for i, k := range kindNames[1:6] {
		place := strings.ToUpper(k)
		for _, source := range []string{"const", "in", "load"} {
			for _, other := range []string{"BOOL", "COUNT", "MONEY", "RATE", "DATE"} {
				want := "steps 3, stack 1"
				if other != place {
					want = "rule 5 at 1"
				}
				one(t, source+" "+place+"; store "+other+"; halt", want)
			}
			wants := [...]string{"rule 5 at 1", "steps 4, stack 1"}
			isBool := map[bool]int{true: 1}[k == "bool"]
			one(t, source+" "+place+"; not; store BOOL; halt", wants[isBool])
			one(t, source+" "+place+"; unless 3; jump 3; halt", wants[isBool])
			one(t, source+" "+place+"; halt", "rule 5 at 1")
		}
		// Tables by count, money and date.
		for at, table := range tables() {
			text := fmt.Sprintf("const %d; at %d; store %d; halt", i, at, int(table.Val)-1)
			want := "rule 5 at 1"
			if kindNames[table.Key] == k {
				want = "steps 4, stack 1"
			}
			one(t, text, want)
		}
		check(t, built(k, "mark 0; const "+place+"; out 0; halt"), "steps 4, stack 1")
		check(t, built(k+" bool", fmt.Sprintf("mark 0; const %d; out 0; halt", (i+1)%5)), "rule 5 at 2")
	}
	one(t, "len LIST; store COUNT; halt", "steps 3, stack 1")
	one(t, "len OTHER; store MONEY; halt", "rule 5 at 1")
	for _, text := range []string{"not", "store BOOL", "unless 1", "at 0", "neg count"} {
		one(t, text+"; halt", "rule 5 at 0")
	}
	check(t, built("count", "mark 0; out 0; halt"), "rule 5 at 1")
	// What is not a value's leaves the stack as it is.
	one(t, "const DATE; jump 2; first LIST ONE 4; next LIST ONE 3; store DATE; halt", "steps 21, stack 1")
	check(t, built("money date", "const DATE; mark 1; const MONEY; mark 0; out 0; mark 1; out 1; halt"), "steps 8, stack 2")
	// The first of two faults.
	one(t, "const BOOL; neg count; store DATE; halt", "rule 5 at 1")
	one(t, "const BOOL; not; store DATE; halt", "rule 5 at 2")
}

// TestStackLimit checks how much may be on the stack.
func TestStackLimit(t *testing.T) {
	one(t, repeated(64, "const 0")+repeated(64, "store 0")+"halt", "steps 129, stack 64")
	one(t, repeated(65, "const 0")+repeated(65, "store 0")+"halt", "rule 5 at 64")
	one(t, repeated(64, "const 0")+"not; const 1; store 1; "+repeated(64, "store 0")+"halt", "rule 5 at 65")
	one(t, repeated(64, "const 0")+"not; store 0; const 0; "+repeated(64, "store 0")+"halt", "steps 132, stack 64")
	one(t, "jump 67; "+repeated(66, "const 0")+"halt", "steps 2, stack 0")
	one(t, repeated(30, "const 1; const 1; lt count")+repeated(30, "store 0")+"halt", "steps 121, stack 31")
	// The most on any way, and not at the end.
	one(t, "const 0; unless 8; const 0; const 0; store 0; store 0; jump 8; const 0; halt", "steps 8, stack 2")
	one(t, "const 0; unless 3; jump 7; const 0; const 0; store 0; store 0; halt", "steps 7, stack 2")
	if api.MaxStack != 64 || api.MaxList != 16 || api.MaxCode != 4096 {
		t.Errorf("api's limits are others")
	}
}

// TestMeets checks that all ways to a place bring the same stack, and who has the fault.
func TestMeets(t *testing.T) {
	for text, want := range map[string]string{
		"const BOOL; unless 4; const COUNT; jump 5; const COUNT; store COUNT; halt":                      "steps 6, stack 1",
		"const BOOL; unless 4; const COUNT; jump 5; const MONEY; store COUNT; halt":                      "rule 5 at 4",
		"const BOOL; unless 4; const MONEY; jump 5; const COUNT; store COUNT; halt":                      "rule 5 at 4",
		"const BOOL; unless 3; const COUNT; store COUNT; halt":                                           "rule 5 at 2",
		"const BOOL; const BOOL; unless 4; not; store BOOL; halt":                                        "steps 6, stack 2",
		"const BOOL; const BOOL; unless 4; jump 5; store BOOL; halt":                                     "rule 5 at 4",
		"const BOOL; unless 5; const BOOL; unless 5; const COUNT; halt":                                  "rule 5 at 4",
		"const BOOL; unless 5; const BOOL; unless 6; const COUNT; store COUNT; halt":                     "rule 5 at 4",
		"const COUNT; const BOOL; unless 5; const BOOL; jump 6; const BOOL; unless 7; store COUNT; halt": "steps 8, stack 2",
		"const COUNT; const BOOL; unless 5; const BOOL; jump 6; const BOOL; unless 8; store COUNT; halt": "rule 5 at 7",
		// A place that no way comes to is not followed.
		"jump 3; not; neg money; halt":                         "steps 2, stack 0",
		"jump 3; const BOOL; jump 3; halt":                     "steps 2, stack 0",
		"jump 4; const BOOL; unless 4; const BOOL; halt":       "steps 2, stack 0",
		"jump 3; first LIST ONE 3; next LIST ONE 2; halt":      "steps 2, stack 0",
		"jump 4; first LIST ONE 4; not; next LIST ONE 2; halt": "steps 2, stack 0",
		"const BOOL; unless 4; jump 4; not; halt":              "steps 4, stack 1",
		// Loops bring to their beginnings, and to their ends, what was ahead of them.
		"first LIST ONE 3; const BOOL; next LIST ONE 1; store BOOL; halt":                                           "rule 5 at 2",
		"const BOOL; first LIST ONE 4; store BOOL; next LIST ONE 2; store BOOL; halt":                               "rule 5 at 3",
		"const BOOL; first LIST ONE 4; not; next LIST ONE 2; store BOOL; halt":                                      "steps 36, stack 1",
		"const COUNT; first LIST ONE 7; store COUNT; load 6; const 0; unless 6; next LIST ONE 2; store COUNT; halt": "rule 5 at 6",
		"const COUNT; first LIST ONE 5; store COUNT; load COUNT; next LIST ONE 2; store COUNT; halt":                "steps 52, stack 1",
		"const COUNT; first LIST ONE 6; store COUNT; load MONEY; jump 5; next LIST ONE 2; store COUNT; halt":        "rule 5 at 5",
		"const MONEY; first LIST ONE 5; load 6; add money; next LIST ONE 2; store MONEY; halt":                      "steps 52, stack 2",
		"const COUNT; first LIST ONE 5; load 6; add money; next LIST ONE 2; store COUNT; halt":                      "rule 5 at 3",
		// Ahead of the sixth rule.
		"const BOOL; unless 2; halt": "steps 3, stack 1",
	} {
		one(t, text, want)
	}
	check(t, built("count", "out 0; const COUNT; halt"), "rule 5 at 0")
	check(t, built("count", "const COUNT; out 0; neg count; halt"), "rule 5 at 2")
}

// TestOutputs checks the sixth rule.
func TestOutputs(t *testing.T) {
	const put = "const COUNT; out "
	for _, c := range []struct{ outs, text, want string }{
		{"count", "mark 0; const COUNT; out 0; halt", "steps 4, stack 1"},
		{"", "mark 0; halt", "rule 3 at 0"},
		{"count", "halt", "rule 6 at 0"},
		{"count", "mark 0; halt", "rule 6 at 1"},
		{"count", put + "0; halt", "rule 6 at 1"},
		{"count count", "mark 1; " + put + "0; mark 1; " + put + "1; halt", "rule 6 at 2"},
		{"count count", "mark 0; " + put + "0; " + put + "1; halt", "rule 6 at 4"},
		{"count count", "mark 0; " + put + "0; mark 1; halt", "rule 6 at 4"},
		{"count count", "mark 1; " + put + "1; halt", "rule 6 at 3"},
		{"count count", "mark 1; " + put + "1; mark 0; " + put + "0; halt", "steps 7, stack 1"},
		{"count count", "mark 1; " + put + "1; mark 0; mark 1; mark 0; " + put + "0; halt", "steps 9, stack 1"},
		{"count", "mark 0; " + put + "0; " + put + "0; halt", "rule 6 at 4"},
		{"count", "mark 0; " + put + "0; mark 0; " + put + "0; halt", "rule 6 at 5"},
		{"count", "mark 0; " + put + "0; mark 0; halt", "steps 5, stack 1"},
		// All ways bring the same.
		{"count", "mark 0; const BOOL; unless 6; " + put + "0; jump 8; " + put + "0; halt", "steps 7, stack 1"},
		{"count", "const BOOL; unless 3; mark 0; " + put + "0; halt", "rule 6 at 2"},
		{"count", "mark 0; const BOOL; unless 5; " + put + "0; halt", "rule 6 at 4"},
		{"count count", "const BOOL; unless 6; mark 0; " + put + "0; jump 9; mark 1; " + put + "1; halt", "rule 6 at 8"},
		{"count count", "const BOOL; unless 4; mark 0; jump 6; mark 0; mark 1; " + put + "0; mark 1; " + put + "1; halt", "rule 6 at 5"},
		{"count count", "const BOOL; unless 4; mark 0; jump 6; mark 1; mark 0; " + put + "0; mark 1; " + put + "1; halt", "steps 10, stack 1"},
		{"count count", "const BOOL; unless 4; mark 0; jump 5; mark 0; " + put + "0; mark 1; " + put + "1; halt", "steps 10, stack 1"},
		// A loop has none, whether a way comes there or not; this is asked of all ahead of the ways.
		{"count", "mark 0; first LIST ONE 4; mark 0; next LIST ONE 2; " + put + "0; halt", "rule 6 at 2"},
		{"count", "mark 0; first LIST ONE 5; " + put + "0; next LIST ONE 2; halt", "rule 6 at 3"},
		{"count", "jump 4; first LIST ONE 4; mark 0; next LIST ONE 2; mark 0; " + put + "0; halt", "rule 6 at 2"},
		{"count", put + "0; first LIST ONE 5; mark 0; next LIST ONE 3; halt", "rule 6 at 3"},
		{"count", "first LIST ONE 5; first LIST TWO 4; mark 0; next LIST TWO 2; next LIST ONE 1; mark 0; " + put + "0; halt", "rule 6 at 2"},
		{"count", "mark 0; first LIST ONE 3; next LIST ONE 2; mark 0; " + put + "0; halt", "steps 22, stack 1"},
		// What no way comes to.
		{"count", "jump 3; mark 0; mark 0; mark 0; " + put + "0; halt", "steps 5, stack 1"},
		{"count", "mark 0; jump 4; const COUNT; out 0; " + put + "0; halt", "steps 5, stack 1"},
	} {
		check(t, built(c.outs, c.text), c.want)
	}
	// As many as may be, in the order of their numbers and back.
	up, down := "", ""
	for i := range 64 {
		up += fmt.Sprint("mark ", i, "; ", put, i, "; ")
		down += fmt.Sprint("mark ", 63-i, "; ", put, 63-i, "; ")
	}
	outs := strings.Repeat("count ", 64)
	check(t, built(outs, up+"halt"), "steps 193, stack 1")
	check(t, built(outs, down+"halt"), "steps 193, stack 1")
	check(t, built(outs, strings.TrimSuffix(up, "mark 63; "+put+"63; ")+"halt"), "rule 6 at 189")
	check(t, built(outs, up+"mark 63; "+put+"63; halt"), "rule 6 at 194")
	check(t, built(outs, up+"mark 0; "+put+"0; halt"), "rule 6 at 194")
}

// nested has so many loops in one another, and in the innermost so many steps beside its next; ahead of all so many more.
func nested(deep, within, ahead int) string {
	var slots []string
	head, tail := repeated(ahead, "const 0; store 0"), ""
	at, many := 2*ahead, 2*within
	for i := range deep {
		slots = append(slots, "count money")
		head += fmt.Sprintf("first 0 %d %d; ", 1+2*i, at+2*deep+many-i)
		tail = fmt.Sprintf("next 0 %d %d; ", 1+2*i, at+i+1) + tail
	}
	return head + repeated(within, "const 0; store 0") + tail + "halt"
}

// TestSteps checks the seventh rule's limit, just at it.
func TestSteps(t *testing.T) {
	check7 := func(deep, within, ahead int, want string) {
		t.Helper()
		p := built("", nested(deep, within, ahead))
		p.Inputs = kindsOf("moneys")
		p.Slots = kindsOf("bool " + strings.Repeat("count money ", 31))
		check(t, p, want)
	}
	// Of d loops with w pairs within: f(0) = 2w, f(d) = 1 + 16 (f(d - 1) + 1); then the halt and what is ahead.
	most := func(deep int, within int64) int64 {
		f := 2 * within
		for range deep {
			f = 1 + 16*(f+1)
		}
		return f + 1
	}
	check7(1, 0, 0, "steps 18, stack 0")
	check7(2, 1, 0, "steps 802, stack 1")
	check7(2, 1, 3, "steps 808, stack 1")
	check7(9, 0, 0, fmt.Sprintf("steps %d, stack 0", most(9, 0)))
	check7(9, 7, 0, fmt.Sprintf("steps %d, stack 1", most(9, 7)))
	check7(9, 8, 0, "rule 7 at -1")
	for deep := 10; deep <= 31; deep++ {
		check7(deep, 0, 0, "rule 7 at -1")
	}
	if most(9, 7) > 1<<40 || most(9, 8) <= 1<<40 || most(10, 0) <= 1<<40 {
		t.Errorf("the limit is not between 7 and 8 pairs within")
	}
}

// TestStepsEdge checks the limit itself, with loops one behind the other that make up any number.
func TestStepsEdge(t *testing.T) {
	for _, more := range []int64{-17, -1, 0, 1, 2, 17} {
		p := built("", "halt")
		p.Inputs = kindsOf("moneys")
		p.Slots = kindsOf("bool " + strings.Repeat("count money ", 31))
		p.Code = nil
		rest := int64(1<<40) + more - 1 // but for the halt
		for rest > 0 {
			// The deepest row of loops that is not too many steps.
			deep, steps := 0, int64(1)
			for next := int64(1 + 16); next <= rest; next = 1 + 16*(next+1) {
				deep, steps = deep+1, next
			}
			at := len(p.Code)
			if deep == 0 {
				p.Code = append(p.Code, built("", fmt.Sprintf("jump %d; halt", at+1)).Code[0])
			} else {
				p.Code = append(p.Code, moved(nested(deep, 0, 0), at)...)
			}
			rest -= steps
		}
		p.Code = append(p.Code, built("", "halt").Code...)
		want := fmt.Sprintf("steps %d, stack 0", int64(1<<40)+more)
		if more > 0 {
			want = "rule 7 at -1"
		}
		check(t, p, want)
	}
}
