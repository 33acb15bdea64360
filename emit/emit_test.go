package emit

import (
	"fmt"
	"math"
	"reflect"
	"slices"
	"strings"
	"testing"

	"publican/api"
	"publican/code"
	"publican/mach"
	"publican/mean"
	"publican/order"
	"publican/syn"
	"publican/verify"
)

func parsed(t *testing.T, text string) syn.Node {
	t.Helper()
	n, at, e := syn.Parse(text)
	if e != api.OK {
		t.Fatalf("P10.1: Parse(%.200q): %v at %d", text, e, at)
	}
	return n
}

func value(k api.Kind, n int64) api.Value { return api.Value{Kind: k, N: n} }

func list(l ...int64) api.Value { return api.Value{Kind: api.List, L: l} }

// emitted checks all that P16.1 says of a program but for its outcome, and tells it.
func emitted(t *testing.T, n syn.Node) code.Program {
	t.Helper()
	p, e := Emit(n)
	if e != api.OK {
		t.Fatalf("P16.1: Emit of %.300s: %v", syn.Show(n), e)
	}
	b, f, ok := verify.Check(p)
	steps, _ := order.Steps(n)
	if !ok || b.Steps > 4*steps+8 || b.Stack > api.MaxStack {
		t.Fatalf("P16.1: Emit of %.300s: %v, %v, order's steps %d", syn.Show(n), f, b, steps)
	}
	var inputs, outs []api.Kind
	var names []string
	for _, d := range n.Kids {
		switch d.Op {
		case "input":
			inputs = append(inputs, d.Kind)
		case "rule":
			outs, names = append(outs, d.Kind), append(names, d.Name)
		}
	}
	if !slices.Equal(p.Inputs, inputs) || !slices.Equal(p.Outs, outs) || !slices.Equal(p.Names, names) {
		t.Errorf("P16.1: Emit of %.300s: %v, %v, %v", syn.Show(n), p.Inputs, p.Outs, p.Names)
	}
	return p
}

// means checks that a program's outcome is what its statute means.
func means(t *testing.T, n syn.Node, p code.Program, in ...api.Value) string {
	t.Helper()
	want, e := mean.Run(n, in)
	got, f := mach.Run(p, in)
	if e != api.OK || f != api.OK || !reflect.DeepEqual(got.Values, want.Values) || got.Err != want.Err || got.Rule != want.Rule {
		t.Fatalf("P16.1: %.2000s of %v: %v, %v, want %v, %v", syn.Show(n), in, got, f, want, e)
	}
	return fmt.Sprint(want.Err, " ", want.Rule)
}

func TestExample(t *testing.T) {
	p, at, e := Text("rule a count = 1;")
	o, f := mach.Run(p, nil)
	if at != 0 || e != api.OK || f != api.OK || len(o.Values) != 1 || o.Values[0].N != 1 || o.Values[0].Kind != api.Count {
		t.Errorf("P16.1: %v at %d: %v, %v", e, at, o, f)
	}
}

// TestText checks whose error is told, and where.
func TestText(t *testing.T) {
	ten := "1"
	for i := range 10 {
		ten = fmt.Sprint("sum(s", i, " in l: ", ten, ")")
	}
	for _, c := range []struct {
		text string
		at   int
		e    api.Errno
	}{
		{"", 0, api.OK},
		{"rule a count = 1;", 0, api.OK},
		{"input a money; input b moneys; table c date rate { else 1% }", 0, api.OK},
		{"rule a count = ?;", 15, api.ESYNTAX},
		{"rule a count = 1", 16, api.ESYNTAX},
		{"rule a count = 1; rule b money = 1; rule", 40, api.ESYNTAX},
		{strings.Repeat(" ", api.MaxText) + "?", 0, api.ELIMIT},
		{strings.Repeat(" ", api.MaxText-1) + "?", api.MaxText - 1, api.ESYNTAX},
		{"rule a count = " + strings.Repeat("(", 40) + "1" + strings.Repeat(")", 40) + ";", 55, api.ELIMIT},
		{"rule a count = " + strings.Repeat("(", 39) + "1" + strings.Repeat(")", 39) + ";", 0, api.OK},
		{"rule a money = 1;", 0, api.ETYPE},
		{"rule a count = 1; rule b money = 1;", 18, api.ETYPE},
		{"rule a count = 1; rule b money = $1 + 1;", 36, api.ETYPE},
		{"rule a count = 1; input a count;", 18, api.ETYPE},
		{"rule a count = a;", 0, api.ETYPE},
		{"rule b count = 1; rule c count = a + b; rule a count = c;", 0, api.ETYPE},
		{"rule b count = 1; rule c count = if false then a else b; rule a count = c;", 0, api.ETYPE},
		{"rule a count = 1; input l moneys; rule b count = " + ten + ";", 0, api.ELIMIT},
		{"rule a count = b; input l moneys; rule b count = a + " + ten + ";", 0, api.ETYPE},
		{"rule a count = 1; input l moneys; rule b money = " + ten + ";", 34, api.ETYPE},
	} {
		p, at, e := Text(c.text)
		if at != c.at || e != c.e || e != api.OK && !reflect.DeepEqual(p, code.Program{}) {
			t.Errorf("P16.1: Text(%.100q): %v at %d, want %v at %d; %v", c.text, e, at, c.e, c.at, p.Code)
		}
		n, _, e := syn.Parse(c.text)
		if e != api.OK {
			continue
		}
		q, e := Emit(n)
		if e != c.e || !code.Same(p, q) {
			t.Errorf("P16.1: Emit of %.100q: %v, want %v", c.text, e, c.e)
		}
	}
}

// TestNoRules checks what has nothing to put out.
func TestNoRules(t *testing.T) {
	for _, text := range []string{"", "input a money; table t count count { else 1 } input b moneys;"} {
		n := parsed(t, text)
		p := emitted(t, n)
		if b, _, ok := verify.Check(p); !ok || b.Steps > 8 {
			t.Errorf("P16.1: %q: %v", text, b)
		}
		if text == "" {
			means(t, n, p)
		} else {
			means(t, n, p, value(api.Money, 5), list(1))
		}
	}
}

// TestOperators checks each operator with each of its kinds, of names, of lits, and of one of each.
func TestOperators(t *testing.T) {
	numbers := map[string][]int64{
		"bool": {0, 1}, "count": {0, 1, -1, 2, -7, 1000, api.MaxMoney, -api.MaxMoney}, "money": {0, 1, -1, 7, -700, 12345, api.MaxMoney, -api.MaxMoney},
		"rate": {0, 1, -1, 75000, 1000000, 1000000000000, -1000000000000}, "date": {0, 1, 40000, api.MaxDay},
	}
	lits := map[string]string{"bool": "true", "count": "7", "money": "$0.33", "rate": "7.5%", "date": "2024-02-29"}
	kinds := []string{"", "bool", "count", "money", "rate", "date"}
	many := 0
	for _, form := range []string{"x + y", "x - y", "x * y", "x / y", "x < y", "x <= y", "x > y", "x >= y", "x == y", "x != y", "x and y", "x or y",
		"min(x, y)", "max(x, y)", "-x", "not x", "if x == y then x else y", "if x < y then x else y", "if x != y then y else x", "if x and not y then x else not y"} {
		for _, a := range kinds[1:] {
			for _, b := range kinds[1:] {
				for _, is := range kinds[1:] {
					for _, put := range [][2]string{{"x", "y"}, {"x", lits[b]}, {lits[a], "y"}, {lits[a], lits[b]}} {
						expr := strings.NewReplacer("x", put[0], "y", put[1]).Replace(strings.Replace(form, "max(", "MA(", 1))
						text := fmt.Sprintf("input x %s; input y %s; rule r %s = %s; rule s bool = r == r;", a, b, is, strings.Replace(expr, "MA(", "max(", 1))
						n := parsed(t, text)
						if _, e := order.Sort(n); e != api.OK {
							continue
						}
						many++
						p := emitted(t, n)
						for _, x := range numbers[a] {
							for _, y := range numbers[b] {
								means(t, n, p, value(api.Kind(slices.Index(kinds, a)), x), value(api.Kind(slices.Index(kinds, b)), y))
							}
						}
					}
				}
			}
		}
	}
	if many < 300 {
		t.Errorf("just %d statutes", many)
	}
}

// TestErrors checks that the error and its rule are the statute's, also where folding would put the rules in another order.
func TestErrors(t *testing.T) {
	for text, want := range map[string]string{
		// As written a leans on b, so that b is first; folded it does not.
		"rule a count = if false then b else 1 / x; rule b count = 4503599627370496 + 1 + x;":                       "error 10 b",
		"rule a bool = false and b == 1 or 1 / x == 1; rule b count = 4503599627370496 + 1 + x;":                    "error 10 b",
		"rule b count = 1 / x; rule a count = c; rule c count = 4503599627370496 + 1;":                              "error 11 b",
		"rule a count = c; rule b count = 1 / x; rule c count = 4503599627370496 + 1;":                              "error 11 b",
		"rule a count = c + 1 / x; rule c count = 4503599627370496 + 1;":                                            "error 10 c",
		"rule a count = 1 / x + (4503599627370496 + 1);":                                                            "error 11 a",
		"rule a count = (4503599627370496 + 1) + 1 / x;":                                                            "error 10 a",
		"rule a date = 1900-01-01 - 1;":                                                                             "error 12 a",
		"rule a count = min(1 / x, 4503599627370496 * 2);":                                                          "error 11 a",
		"rule a bool = 4503599627370496 * 2 > 1 / x;":                                                               "error 10 a",
		"rule a bool = 1 / x > 4503599627370496 * 2;":                                                               "error 11 a",
		"rule a bool = x == 0 or 1 / x == 1;":                                                                       "error 0 ",
		"rule a bool = x != 0 and 1 / x == 1;":                                                                      "error 0 ",
		"rule a bool = x == 0 and 1 / x == 1;":                                                                      "error 11 a",
		"rule a bool = x != 0 or 1 / x == 1;":                                                                       "error 11 a",
		"rule a count = if x == 0 or 1 / x == 1 then 1 else 1 / x;":                                                 "error 0 ",
		"rule a count = if not (x == 0 or 1 / x == 1) then 1 / x else 2;":                                           "error 0 ",
		"rule a count = if x == 0 then 1 else 1 / x;":                                                               "error 0 ",
		"rule a count = if x > 0 then 1 else 1 / x;":                                                                "error 11 a",
		"rule a count = sum(m in none: 1 / x);":                                                                     "error 0 ",
		"rule a count = sum(m in l: 1 / x);":                                                                        "error 11 a",
		"rule a money = sum(m in l: $45035996273704.96);":                                                           "error 10 a",
		"rule a money = sum(m in l: m * 4503599627370496) + $1 / x;":                                                "error 10 a",
		"rule a rate = $1 / sum(m in none: m);":                                                                     "error 11 a",
		"rule a count = 1; rule b count = a / x; rule c count = b; rule d count = 1900-01-01 - 2199-12-31 + a / x;": "error 11 b",
	} {
		n := parsed(t, "input x count; input l moneys; input none moneys; "+text)
		if got := means(t, n, emitted(t, n), value(api.Count, 0), list(100, -200, 300), list()); got != want {
			t.Errorf("P13.1: %s: %s, want %s", text, got, want)
		}
	}
}

// TestNames checks what names stand for: inputs, rules worked out ahead or behind, sums.
func TestNames(t *testing.T) {
	for _, text := range []string{
		"rule a money = b + c; input x money; rule b money = x * 2; input y count; rule c money = b * y + x; input l moneys;",
		"input x money; input y count; input l moneys; rule a money = sum(q in l: q * y + x) + b; rule b money = sum(q in l: sum(r in l: q - r * 2 + c)); rule c money = x;",
		"input x money; input y count; input l moneys; rule a count = sum(q in l: sum(r in l: sum(s in l: if q < r and r < s or q == s then y else len(l))));",
		"input x money; input y count; input l moneys; rule a money = sum(q in l: q) + sum(r in l: r * 2) - sum(q in l: q * 3); rule b money = a + a; rule c money = a * y;",
		"table t money count { $1: 1, $5: 5, else 9 } input x money; input y count; rule a count = at(t, x) + at(u, y); table u count count { 0: 100, else 200 } input l moneys; rule b count = sum(q in l: at(t, q + x));",
		"input x money; input y count; input l moneys; rule a bool = b; rule b bool = x > $0; rule c count = if a == b then y else -y;",
	} {
		n := parsed(t, text)
		p := emitted(t, n)
		for _, y := range []int64{0, 1, -3} {
			for _, l := range []api.Value{list(), list(500), list(100, -200, 300, 99)} {
				means(t, n, p, value(api.Money, 300*y+1), value(api.Count, y), l)
			}
		}
	}
}

// TestFaultyTrees checks what syn does not tell (R1): no panic, and nothing that verify would not take (T1).
func TestFaultyTrees(t *testing.T) {
	lit := func(k api.Kind, n int64) syn.Node { return syn.Node{Op: "lit", Kind: k, N: n} }
	rule := func(k api.Kind, e syn.Node) syn.Node {
		return syn.Node{Op: "statute", Kids: []syn.Node{{Op: "rule", Name: "r", Kind: k, Kids: []syn.Node{e}}}}
	}
	for i, n := range []syn.Node{
		{}, {Op: "rule"}, {Op: "statute", Kids: []syn.Node{{}}}, {Op: "statute", Kids: []syn.Node{{Op: "rule", Name: "r", Kind: 2}}},
		rule(2, syn.Node{}), rule(2, syn.Node{Op: "+"}), rule(2, syn.Node{Op: "sum", Kids: []syn.Node{lit(2, 1), lit(2, 1)}}),
		rule(2, syn.Node{Op: "len", Kids: []syn.Node{lit(6, 1)}}), rule(6, lit(6, 0)), rule(0, lit(0, 0)), rule(2, syn.Node{Op: "at", Name: "r", Kids: []syn.Node{lit(2, 1)}}),
	} {
		if p, e := Emit(n); e != api.ETYPE || !reflect.DeepEqual(p, code.Program{}) {
			t.Errorf("P16.1: tree %d: %v", i, e)
		}
	}
	edges := map[api.Kind][2]int64{api.Bool: {0, 1}, api.Count: {-api.MaxMoney, api.MaxMoney}, api.Money: {-api.MaxMoney, api.MaxMoney}, api.Rate: {-1000000000000, 1000000000000}, api.Date: {0, api.MaxDay}}
	for k, edge := range edges {
		for n, want := range map[int64]api.Errno{edge[0]: api.OK, edge[1]: api.OK, edge[0] - 1: api.ELIMIT, edge[1] + 1: api.ELIMIT, math.MinInt64: api.ELIMIT, math.MaxInt64: api.ELIMIT} {
			table := syn.Node{Op: "table", Name: "t", Kind: k, N: 2, Kids: []syn.Node{{Op: "row", Kids: []syn.Node{lit(2, 5), lit(k, n)}}, {Op: "row", Kids: []syn.Node{lit(k, edge[0])}}}}
			withTable := rule(k, syn.Node{Op: "at", Name: "t", Kids: []syn.Node{lit(2, 1)}})
			withTable.Kids = append(withTable.Kids, table)
			for _, n := range []syn.Node{rule(k, lit(k, n)), withTable} {
				p, e := Emit(n)
				if _, _, ok := verify.Check(p); e != want || ok != (e == api.OK) {
					t.Errorf("T1: %s: %v, want %v", syn.Show(n), e, want)
				}
			}
		}
	}
	for rows, want := range map[int]api.Errno{1: api.OK, 31: api.OK, 32: api.OK, 33: api.ELIMIT, 1000: api.ELIMIT} {
		table := syn.Node{Op: "table", Name: "t", Kind: 2, N: 2}
		for i := range rows - 1 {
			table.Kids = append(table.Kids, syn.Node{Op: "row", Kids: []syn.Node{lit(2, int64(i)), lit(2, int64(3*i))}})
		}
		table.Kids = append(table.Kids, syn.Node{Op: "row", Kids: []syn.Node{lit(2, -1)}})
		n := rule(2, syn.Node{Op: "at", Name: "t", Kids: []syn.Node{{Op: "name", Name: "x"}}})
		n.Kids = append(n.Kids, table, syn.Node{Op: "input", Name: "x", Kind: 2})
		p, e := Emit(n)
		if e != want {
			t.Errorf("T1: a table of %d rows: %v, want %v", rows, e, want)
		}
		for x := -2; x < rows+2 && e == api.OK; x++ {
			means(t, n, p, value(api.Count, int64(x)))
		}
	}
}

// TestNested checks R1 of much that is nested: a refusal, or a program.
func TestNested(t *testing.T) {
	const much = 60000
	forms := map[string]func(e syn.Node) syn.Node{
		"neg": func(e syn.Node) syn.Node { return syn.Node{Op: "neg", Kids: []syn.Node{e}} },
		"+":   func(e syn.Node) syn.Node { return syn.Node{Op: "+", Kids: []syn.Node{{Op: "name", Name: "x"}, e}} },
		"if": func(e syn.Node) syn.Node {
			return syn.Node{Op: "if", Kids: []syn.Node{{Op: "name", Name: "b"}, {Op: "lit", Kind: 2}, e}}
		},
	}
	for what, form := range forms {
		e := syn.Node{Op: "name", Name: "x"}
		for range much {
			e = form(e)
		}
		n := parsed(t, "input x count; input b bool; rule r count = x; rule s bool = b;")
		n.Kids[2].Kids[0] = e
		if p, e := Emit(n); e != api.ELIMIT || !reflect.DeepEqual(p, code.Program{}) {
			t.Errorf("R1: %s: %v", what, e)
		}
	}
	for _, what := range []string{"not", "and", "or", "=="} {
		e := syn.Node{Op: "name", Name: "b"}
		for range much {
			e = syn.Node{Op: what, Kids: []syn.Node{{Op: "name", Name: "b"}, e}}
			if what == "not" {
				e.Kids = e.Kids[1:]
			}
		}
		n := parsed(t, "input x count; input b bool; rule r count = if b then 1 else 2; rule s bool = b;")
		n.Kids[2].Kids[0].Kids[0], n.Kids[3].Kids[0] = e, e
		p, e2 := Emit(n)
		if want := api.ELIMIT; e2 != want && what != "not" || what == "not" && e2 != api.OK {
			t.Errorf("R1: %s: %v", what, e2)
		}
		if what == "not" { // which takes no instruction
			means(t, n, p, value(api.Count, 0), value(api.Bool, 1))
		}
	}
}

// TestMemory checks R4: nothing that is handed in is changed, and what is answered is its own.
func TestMemory(t *testing.T) {
	const text = "input x money; input l moneys; table t money count { $1: 1, else 2 } rule a money = b + sum(q in l: q); rule b money = x * at(t, x); rule c count = at(u, 2024-01-01); table u date count { else 1 }"
	n := parsed(t, text)
	p, _ := Emit(n)
	q, _ := Emit(n)
	before := code.Encode(q)
	for i := range p.Tables {
		spoil(p.Tables[i].Keys, 77)
		spoil(p.Tables[i].Vals, 78)
	}
	if p.Tables[0].Keys[0] != 77 || p.Tables[0].Vals[0] != 78 {
		t.Errorf("R4: two lists of one answer share memory")
	}
	spoil(p.Inputs, 11)
	spoil(p.Outs, 12)
	spoil(p.Slots, 13)
	if p.Inputs[0] != 11 || p.Outs[0] != 12 || p.Slots[0] != 13 {
		t.Errorf("R4: two lists of one answer share memory")
	}
	spoil(p.Names, "spoilt")
	spoil(p.Consts, api.Value{Kind: 99})
	spoil(p.Code, code.Instr{Op: 99})
	spoil(p.Tables, code.Table{})
	r, _ := Emit(n)
	if !slices.Equal(code.Encode(q), before) || !slices.Equal(code.Encode(r), before) || !reflect.DeepEqual(n, parsed(t, text)) {
		t.Errorf("R4, R5: Emit shares memory")
	}
}

// spoil writes over all that a list has room for.
func spoil[T any](l []T, mark T) {
	l = l[:cap(l)]
	for i := range l {
		l[i] = mark
	}
}
