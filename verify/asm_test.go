package verify

import (
	"fmt"
	"slices"
	"strconv"
	"strings"
	"testing"

	"publican/api"
	"publican/code"
)

var kindNames = []string{"none", "bool", "count", "money", "rate", "date", "moneys"}

// kindsOf reads kinds' names, parted by blanks.
func kindsOf(text string) []api.Kind {
	var l []api.Kind
	for _, s := range strings.Fields(text) {
		l = append(l, api.Kind(slices.Index(kindNames, s)))
	}
	return l
}

// The lists of each program here: at each kind's number but one is that kind, so that one who reads need not count.
const (
	inputs = "bool count money rate date moneys moneys"
	slots  = "bool count money rate date count money count money count count money"
)

// Names for their places.
var placeNames = map[string]int{
	"BOOL": 0, "COUNT": 1, "MONEY": 2, "RATE": 3, "DATE": 4, "LIST": 5, "OTHER": 6, // inputs, slots and constants; the lists are inputs
	"ONE": 5, "TWO": 7, "MIX": 9, "THREE": 10, // pairs of slots, and one that is none
	"bool": 1, "count": 2, "money": 3, "rate": 4, "date": 5, "moneys": 6,
}

// tables have from each to the next: count to money, money to count, date to bool, count to rate, count to date.
func tables() []code.Table {
	return []code.Table{
		{Key: api.Count, Val: api.Money, Keys: []int64{1, 5}, Vals: []int64{0, 100, 200}},
		{Key: api.Money, Val: api.Count, Vals: []int64{7}},
		{Key: api.Date, Val: api.Bool, Keys: []int64{0, api.MaxDay}, Vals: []int64{0, 1, 0}},
		{Key: api.Count, Val: api.Rate, Vals: []int64{1000000000000}},
		{Key: api.Count, Val: api.Date, Vals: []int64{0}},
	}
}

// built reads instructions, parted by semicolons, and the outputs' kinds. An instruction that has a number in place of a name is just that.
func built(outs, text string) code.Program {
	p := code.Program{
		Consts: []api.Value{{Kind: api.Bool, N: 1}, {Kind: api.Count, N: 5}, {Kind: api.Money, N: 700}, {Kind: api.Rate, N: 50000}, {Kind: api.Date, N: 40000}},
		Tables: tables(), Inputs: kindsOf(inputs), Slots: kindsOf(slots), Outs: kindsOf(outs),
	}
	for i := range p.Outs {
		p.Names = append(p.Names, fmt.Sprint("out", i))
	}
	for _, s := range strings.Split(text, ";") {
		words := strings.Fields(s)
		i := code.Instr{Op: number(words[0])}
		for k, w := range words[1:] {
			n, isPlace := placeNames[w]
			if !isPlace {
				n, _ = strconv.Atoi(w)
			}
			*[]*int{&i.A, &i.B, &i.C}[k] = n
		}
		p.Code = append(p.Code, i)
	}
	return p
}

func number(word string) int {
	for op := range 24 {
		if code.Name(op) == word {
			return op
		}
	}
	n, _ := strconv.Atoi(word)
	return n
}

// told tells what Check says.
func told(p code.Program) string {
	b, f, ok := Check(p)
	if ok && f != (Fault{}) || !ok && b != (Bound{}) {
		return fmt.Sprintf("R2: %v, %v, %v", b, f, ok)
	}
	if !ok {
		return fmt.Sprintf("rule %d at %d", f.Rule, f.PC)
	}
	return fmt.Sprintf("steps %d, stack %d", b.Steps, b.Stack)
}

func check(t *testing.T, p code.Program, want string) {
	t.Helper()
	if got := told(p); got != want {
		t.Errorf("P17.1: %s: %s, want %s", shown(p), got, want)
	}
}

// one checks a program without outputs.
func one(t *testing.T, text, want string) {
	t.Helper()
	check(t, built("", text), want)
}

func shown(p code.Program) string {
	var l []string
	for pc, i := range p.Code[:min(len(p.Code), 60)] {
		l = append(l, fmt.Sprint(pc, ": ", code.Show(i)))
	}
	return strings.Join(l, ", ")
}

// repeated is a piece of a program so many times.
func repeated(many int, text string) string { return strings.Repeat(text+"; ", many) }

// moved reads loops, without their halt, so that they may stand from that place on.
func moved(text string, at int) []code.Instr {
	l := built("", text).Code
	for i := range l {
		l[i].C += at
	}
	return l[:len(l)-1]
}
