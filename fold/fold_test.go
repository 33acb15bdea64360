package fold

import (
	"math"
	"reflect"
	"slices"
	"strings"
	"testing"

	"publican/api"
	"publican/mean"
	"publican/order"
	"publican/syn"
	"publican/typ"
)

func parsed(t *testing.T, text string) syn.Node {
	t.Helper()
	n, at, e := syn.Parse(text)
	if e != api.OK {
		t.Fatalf("P10.1: Parse(%q): %v at %d", text, e, at)
	}
	return n
}

const head = "rule r count = "

// expression tells a text's tree; its places count from the text's beginning.
func expression(t *testing.T, text string) syn.Node {
	t.Helper()
	return moved(parsed(t, head+text+";").Kids[0].Kids[0], -len(head))
}

func moved(e syn.Node, by int) syn.Node {
	e.At += by
	e.Kids = slices.Clone(e.Kids)
	for i, kid := range e.Kids {
		e.Kids[i] = moved(kid, by)
	}
	return e
}

// alike holds of nodes that stand at the same places, too.
func alike(a, b syn.Node) bool {
	return syn.Same(a, b) && a.At == b.At && slices.EqualFunc(a.Kids, b.Kids, alike)
}

// tree tells a node with all its places.
func tree(at int, op string, kids ...syn.Node) syn.Node {
	return syn.Node{Op: op, At: at, Kids: kids}
}

func lit(at int, k api.Kind, n int64) syn.Node {
	return syn.Node{Op: "lit", Kind: k, N: n, At: at}
}

func name(at int, s string) syn.Node { return syn.Node{Op: "name", Name: s, At: at} }

// folds checks what Expr makes of a text, which has a ~ ahead of the word where that stands.
func folds(t *testing.T, text, want string) {
	t.Helper()
	at := strings.Index(text, "~")
	e := expression(t, strings.Replace(text, "~", "", 1))
	got := Expr(e)
	if syn.Show(got) != want || got.At != at {
		t.Errorf("P15.1: Expr(%s): %s at %d, want %s at %d", text, syn.Show(got), got.At, want, at)
	}
	if !alike(Expr(got), got) {
		t.Errorf("P15.2: Expr of Expr(%s): %s, want %s", text, syn.Show(Expr(got)), syn.Show(got))
	}
}

// stays checks that Expr makes of a text just what it is.
func stays(t *testing.T, text string) {
	t.Helper()
	if e := expression(t, text); !alike(Expr(e), e) {
		t.Errorf("P15.1: Expr(%s): %s", text, syn.Show(Expr(e)))
	}
}

func TestExample(t *testing.T) {
	n := Fold(parsed(t, "rule a money = $1 + $2 * 3;"))
	if want := lit(18, api.Money, 700); len(n.Kids) != 1 || !alike(n.Kids[0].Kids[0], want) {
		t.Errorf("P15.1: the example: %v", n)
	}
}

func TestOperators(t *testing.T) {
	for text, want := range map[string]string{
		"1 ~+ 2": "3", "$1 ~+ $2.50": "$3.50", "1% ~+ 2.5%": "3.5000%", "2023-12-31 ~+ 1": "2024-01-01",
		"1 ~- 2": "-1", "$1 ~- $2.50": "-$1.50", "1% ~- 2.5%": "-1.5000%", "2024-01-01 ~- 1": "2023-12-31", "2024-03-01 ~- 2024-02-01": "29",
		"6 ~* 7": "42", "$6 ~* 7": "$42.00", "7 ~* $6": "$42.00", "$10 ~* 7.5%": "$0.75", "7.5% ~* $10": "$0.75", "2 ~* 7.5%": "15.0000%", "$0.01 ~* 50%": "$0.00",
		"7 ~/ 2": "3", "-7 ~/ 2": "-4", "$0.07 ~/ 2": "$0.03", "$1 ~/ $3": "33.3333%", "-$1 ~/ $3": "-33.3334%", "$1 ~/ (-$3)": "-33.3334%",
		"1 ~< 2": "true", "2 ~< 2": "false", "$2 ~<= $2": "true", "$3 ~<= $2": "false", "2% ~> 1%": "true", "2% ~> 2%": "false",
		"2024-01-01 ~>= 2024-01-01": "true", "2023-12-31 ~>= 2024-01-01": "false", "1 ~== 1": "true", "1 ~== 2": "false", "true ~== false": "false",
		"true ~!= false": "true", "$1 ~!= $1": "false",
		"~- 5": "-5", "~- -5": "5", "~-$5": "-$5.00", "~-5%": "-5.0000%", "~-0": "0", "~not true": "false", "~not false": "true", "~not not true": "true",
		"~min(1, 2)": "1", "~min($2, $1)": "$1.00", "~max(1%, 2%)": "2.0000%", "~max(2024-01-01, 2023-01-01)": "2024-01-01",
		"1 + 2 ~+ 3": "6", "1 ~+ 2 * 3": "7", "(1 + 2) ~* 3": "9", "~min(1 + 1, 3 * 3)": "2", "not (1 > 2) ~== true": "true",
		// At the edges of a kind.
		"4503599627370495 ~+ 1": "4503599627370496", "-4503599627370495 ~- 1": "-4503599627370496", "99999999.9999% ~+ 0.0001%": "100000000.0000%",
		"2199-12-30 ~+ 1": "2199-12-31", "1900-01-02 ~- 1": "1900-01-01", "67108864 ~* 67108864": "4503599627370496",
	} {
		folds(t, text, want)
	}
}

// TestErrors checks that what has an error stays, and its kids are folded all the same.
func TestErrors(t *testing.T) {
	for _, text := range []string{
		"1 / 0", "$1 / 0", "$1 / $0", "0 / 0", "4503599627370496 + 1", "$45035996273704.96 + $0.01", "100000000% + 0.0001%", "67108865 * 67108864",
		"$45035996273704.96 * 2", "$10000.01 / $0.01", "1900-01-01 - 1", "2199-12-31 + 1", "2000-01-01 + 4503599627370496", "-(1 / 0)",
		"1 / 0 + 1", "(2199-12-31 + 1) - 2199-12-31", "1 / 0 * 0", "min(1 / 0, 1)", "1 / 0 == 1 / 0", "not (1 / 0 == 1)",
		// Kinds that may not be.
		"1 + $1", "$1 + 1", "1 + 1%", "1 + 2024-01-01", "2024-01-01 + 2024-01-02", "true + true", "1 - 2024-01-01", "$1 * $1", "1% * 1%", "2 / $1", "1% / 2",
		"1 < $1", "true < false", "true >= true", "1 == true", "$1 != 1%", "- true", "-2024-01-01", "not 1", "not $0", "min(true, false)", "max(1, $1)",
		"2024-01-01 * 0", "1 / true", "$0 + 0",
	} {
		stays(t, text)
	}
	folds(t, "(1 - 1 + 1) ~/ (1 - 1)", "(1 / 0)")
	folds(t, "~-((1 + 1) / 0)", "(- (2 / 0))")
	folds(t, "(1 / 0) ~+ (1 + 1)", "((1 / 0) + 2)")
	folds(t, "(1 + 1) ~+ ($1 + $1)", "(2 + $2.00)")
	folds(t, "~not (1 + 1)", "(not 2)")
	folds(t, "~min(1 + 1, $1 * 2)", "min(2, $2.00)")
}

func TestAndOr(t *testing.T) {
	for text, want := range map[string]string{
		"true and ~b": "b", "~false and b": "false", "~true or b": "true", "false or ~b": "b",
		// Of two lits it is one of them that is told, and not a new one.
		"true and ~true": "true", "true and ~false": "false", "~false and true": "false", "~false and false": "false",
		"~true or true": "true", "~true or false": "true", "false or ~true": "true", "false or ~false": "false",
		"true and a ~and b": "(a and b)", "false and b or ~c": "c", "true and false or ~c": "c", "false or ~not b": "(not b)", "b ~and (1 < 2)": "(b and true)", "b ~or (true and c)": "(b or c)",
		"1 < 2 and ~b": "b", "1 ~< 2 or b": "true", "1 ~> 2 and b": "false", "true and 1 + 1 ~== 2": "true", "b and false ~and (true and c)": "((b and false) and c)",
		"~false and (1 / 0 == 1)": "false", "~true or 1 / 0 == 1": "true", "true and 1 / 0 ~== 1": "((1 / 0) == 1)",
		"~false and b and c": "false", "~true or b or c": "true", "false or false or ~c": "c",
		// Whatever the kinds: a lit is true just if its number is 1.
		"1 and ~b": "b", "~2 and b": "2", "~0 and b": "0", "~1 or b": "1", "2 or ~b": "b", "0 or ~b": "b", "$0.01 and ~b": "b", "~$1 and b": "$1.00", "~$0.01 or b": "$0.01",
		"0.0001% and ~b": "b", "~1% and b": "1.0000%", "1900-01-02 and ~b": "b", "~1900-01-01 and b": "1900-01-01", "~1900-01-02 or b": "1900-01-02", "true and ~5": "5",
		"false or ~$2": "$2.00", "1 and ~$2": "$2.00", "2 ~- 1 or b": "1", "-1 or ~b": "b", "~-1 and b": "-1",
	} {
		folds(t, text, want)
	}
	for _, text := range []string{"b and true", "b and false", "b or true", "b or false", "b and c", "b or c", "1 / 0 == 1 and false", "1 / 0 == 1 or true", "(1 / 0) and true", "len(l) or true"} {
		stays(t, text)
	}
}

func TestIf(t *testing.T) {
	for text, want := range map[string]string{
		"if true then ~x else y": "x", "if false then x else ~y": "y", "if 1 < 2 then ~x else y": "x", "if not true then x else ~y": "y",
		"if true then 1 ~+ 1 else y": "2", "if false then x else y ~+ (1 + 1)": "(y + 2)", "if true then 1 ~/ 0 else 2": "(1 / 0)", "if false then 1 / 0 else ~2": "2",
		"~if b then 1 + 1 else 2 + 2": "(if b then 2 else 4)", "~if b then 1 else 1": "(if b then 1 else 1)", "~if b then x else x": "(if b then x else x)",
		"~if 1 / 0 == 1 then 1 + 1 else 2": "(if ((1 / 0) == 1) then 2 else 2)", "~if not b then if true then x else y else z": "(if (not b) then x else z)",
		"if true then if false then x else ~y else z": "y", "if if true then false else true then x else ~y": "y", "if true or b then ~x else y": "x",
		"if false and b then x else ~y": "y", "~if true and b then x else y": "(if b then x else y)", "if true then ~if b then x else y else z": "(if b then x else y)",
		// Whatever the kind: a lit is true just if its number is 1.
		"if 1 then ~x else y": "x", "if 2 then x else ~y": "y", "if 0 then x else ~y": "y", "if -1 then x else ~y": "y", "if $0.01 then ~x else y": "x", "if $1 then x else ~y": "y",
		"if 0.0001% then ~x else y": "x", "if 1% then x else ~y": "y", "if 1900-01-02 then ~x else y": "x", "if 1900-01-01 then x else ~y": "y", "if 3 - 2 then ~x else y": "x",
		// The kids' kinds need not be alike.
		"if true then ~1 else $1": "1", "if false then 1 else ~$1": "$1.00", "~if b then 1 else $1": "(if b then 1 else $1.00)",
	} {
		folds(t, text, want)
	}
}

// TestElse checks that everything else is as it was, with its kids folded.
func TestElse(t *testing.T) {
	for _, text := range []string{"1", "$1", "1%", "2024-01-01", "true", "false", "x", "x + 1", "1 + x", "- x", "not x", "min(1, x)", "max(x, 1)", "x + 1 + 2", "1 + x + 2", "x * 0", "0 * x", "x - x", "x == x", "len(l)", "len(1)", "at(t, 1)", "at(t, x)", "sum(q in l: 1)", "sum(q in 1: 2)", "sum(q in l: q + 1)", "not not b", "- - x"} {
		stays(t, text)
	}
	for text, want := range map[string]string{
		"x ~+ (1 + 2)": "(x + 3)", "1 + 2 ~+ x": "(3 + x)", "x + 1 ~+ (2 + 3)": "((x + 1) + 5)", "~-(x + (1 + 2))": "(- (x + 3))", "~not (b and not false)": "(not (b and true))",
		"~min(x, 1 + 2)": "min(x, 3)", "~max(1 + 2, x)": "max(3, x)", "~len(if true then l else k)": "len(l)", "~len(1 + 2)": "len(3)", "~at(t, 1 + 2)": "at(t, 3)", "~at(t, x + (1 + 2))": "at(t, (x + 3))",
		"~sum(q in l: 1 + 2)": "sum(q in l: 3)", "~sum(q in if true then l else k: q * (1 + 2))": "sum(q in l: (q * 3))", "~sum(q in l: sum(p in l: p - (- $1)))": "sum(q in l: sum(p in l: (p - -$1.00)))",
		"x ~< (1 + 2)": "(x < 3)", "1 + 2 ~== x": "(3 == x)", "x ~/ (1 / 0 + (1 + 1))": "(x / ((1 / 0) + 2))",
	} {
		folds(t, text, want)
	}
}

// TestPlaces checks the places of all nodes, not just of the first.
func TestPlaces(t *testing.T) {
	for text, want := range map[string]syn.Node{
		"x + (1 + 2) * 3":                    tree(2, "+", name(0, "x"), lit(12, api.Count, 9)),
		"if b then 1 + 2 else - 3":           tree(0, "if", name(3, "b"), lit(12, api.Count, 3), lit(21, api.Count, -3)),
		"(1 + 2) / (1 - 1)":                  tree(8, "/", lit(3, api.Count, 3), lit(13, api.Count, 0)),
		"if true then x * (2 * 2) else y":    tree(15, "*", name(13, "x"), lit(20, api.Count, 4)),
		"(true and true) == (false or b)":    tree(16, "==", lit(10, api.Bool, 1), name(29, "b")),
		"(false and true) == (true or b)":    lit(17, api.Bool, 0),
		"min(x, if 1 < 2 then 5 - 4 else 7)": tree(0, "min", name(4, "x"), lit(23, api.Count, 1)),
	} {
		if e := expression(t, text); !alike(Expr(e), want) {
			t.Errorf("P15.1: Expr(%s): %v, want %v", text, Expr(e), want)
		}
	}
}

var allOps = strings.Fields("+ - * / < <= > >= == != and or neg not min max if len at sum name lit rule input table row statute what")

// TestAllLits holds all operators of lits of all kinds and numbers against mean's Op.
func TestAllLits(t *testing.T) {
	numbers := []int64{0, 1, 2, -1, 7, 109572, 109573, 1000000, maxRate, maxRate + 1, api.MaxMoney, -api.MaxMoney, api.MaxMoney + 1, math.MaxInt64, math.MinInt64}
	folded := 0
	for i := range len(allOps) * 9 * 9 {
		op, ka, kb := allOps[i/81], api.Kind(i/9%9-1), api.Kind(i%9-1)
		for k := range len(numbers) * len(numbers) {
			a, b := lit(7, ka, numbers[k/len(numbers)]), lit(9, kb, numbers[k%len(numbers)])
			e := syn.Node{Op: op, Name: "n", At: 8, Kids: []syn.Node{a, b}}
			want := e
			switch op {
			case "and", "or":
				if want = b; (a.N == 1) == (op == "or") {
					want = a
				}
			case "neg", "not":
				e.Kids = e.Kids[:1]
				want = e
				fallthrough
			default:
				if v, err := mean.Op(op, api.Value{Kind: ka, N: a.N}, api.Value{Kind: kb, N: b.N}); err == api.OK {
					want = lit(8, v.Kind, v.N)
					folded++
				}
			}
			if got := Expr(e); !alike(got, want) {
				t.Fatalf("P15.1: Expr(%v): %v, want %v", e, got, want)
			}
		}
	}
	if folded < 10000 {
		t.Errorf("just %d folded", folded)
	}
}

const maxRate = 1000000000000

func TestFold(t *testing.T) {
	const text = `input a money; rule r money = $1 + $2; table t count money { 1: $1, 2: $2, else $3 } input l moneys;
		rule s money = if 1 > 2 then r else a; rule u count = sum(x in l: 1 + 1) + at(t, 1 + 1) + 0; rule v bool = true;`
	n := parsed(t, text)
	f := Fold(n)
	const want = `input a money;
rule r money = $3.00;
table t count money { 1: $1.00, 2: $2.00, else $3.00 }
input l moneys;
rule s money = a;
rule u count = ((sum(x in l: 2) + at(t, 2)) + 0);
rule v bool = true;
`
	if syn.Show(f) != want {
		t.Errorf("P15.1: Fold: %s, want %s", syn.Show(f), want)
	}
	if f.Op != "statute" || f.At != n.At || len(f.Kids) != len(n.Kids) {
		t.Fatalf("P15.1: Fold: %v", f)
	}
	for i, d := range n.Kids {
		g := f.Kids[i]
		if d.Op != "rule" && !alike(g, d) {
			t.Errorf("P15.1: Fold's declaration %d: %v, want %v", i, g, d)
		}
		if d.Op == "rule" && (g.Op != d.Op || g.Name != d.Name || g.Kind != d.Kind || g.At != d.At || len(g.Kids) != 1 || !alike(g.Kids[0], Expr(d.Kids[0]))) {
			t.Errorf("P15.1: Fold's rule %d: %v, of %v", i, g, d)
		}
	}
	if !alike(Fold(f), f) {
		t.Errorf("P15.2: Fold of Fold: %s", syn.Show(Fold(f)))
	}
	for _, text := range []string{"", "input a count;", "table t count count { else 1 }", "rule a count = 1 / 0;", "rule a count = a;"} {
		if n := parsed(t, text); !alike(Fold(n), n) {
			t.Errorf("P15.1: Fold(%q): %v", text, Fold(n))
		}
	}
	// A statute's faults are no matter.
	faulty := parsed(t, "rule a money = 1 + 1; rule a count = if true then b else $1; input a money;")
	if s := syn.Show(Fold(faulty)); s != "rule a money = 2;\nrule a count = b;\ninput a money;\n" {
		t.Errorf("P15.1: Fold of a statute with faults: %s", s)
	}
}

// comesTo checks what a statute and its fold come to.
func comesTo(t *testing.T, text string, whole, folded mean.Out, in ...api.Value) {
	t.Helper()
	n := parsed(t, text)
	for _, c := range []struct {
		n    syn.Node
		want mean.Out
	}{{n, whole}, {Fold(n), folded}} {
		if o, e := mean.Run(c.n, in); e != api.OK || !reflect.DeepEqual(o, c.want) {
			t.Errorf("P15.2: Run(%s): %v, %v, want %v", syn.Show(c.n), o, e, c.want)
		}
	}
}

func TestMeaning(t *testing.T) {
	count := func(n int64) api.Value { return api.Value{Kind: api.Count, N: n} }
	values := func(l ...api.Value) mean.Out { return mean.Out{Values: l} }
	seven := values(count(7))
	comesTo(t, "rule a count = 1 + 2 * 3;", seven, seven)
	comesTo(t, "rule a count = if 1 < 2 then 7 else 1 / 0;", seven, seven)
	comesTo(t, "input i count; rule a count = i + (2 + 2);", seven, seven, count(3))
	comesTo(t, "input l moneys; rule a count = 7 + sum(x in l: 1 / 0);", seven, seven, api.Value{Kind: api.List})
	comesTo(t, "rule a bool = false and 1 / 0 == 1;", values(api.Value{Kind: api.Bool}), values(api.Value{Kind: api.Bool}))
	zero := mean.Out{Err: api.EZERO, Rule: "a"}
	comesTo(t, "rule a count = 1 / 0;", zero, zero)
	comesTo(t, "rule a count = if 1 / 0 == 1 then 1 else 1;", zero, zero)
	comesTo(t, "rule a bool = 1 / 0 == 1 and false;", zero, zero)
	// What was folded away is leant on no more, but worked out still.
	late := mean.Out{Err: api.ERANGE, Rule: "b"}
	comesTo(t, "rule a count = if true then 1 else b; rule b count = (1900-01-01 - 1) - 1900-01-01;", late, late)
	comesTo(t, "rule a count = if true then 1 / 0 else b; rule b count = (1900-01-01 - 1) - 1900-01-01;", late, zero)
	comesTo(t, "rule a count = if true then b else c; rule c count = 5; rule b count = 2;", values(count(2), count(5), count(2)), values(count(2), count(5), count(2)))
}

// TestFaults checks that a fold may be less than what a fault was in: that is why P15.2 asks for none.
func TestFaults(t *testing.T) {
	for text, want := range map[string]string{
		"rule a count = if true then 1 else a;":                            "rule a count = 1;\n",
		"rule a count = if true then 1 else b; rule b count = a;":          "rule a count = 1;\nrule b count = a;\n",
		"rule a count = if false then $1 else 2;":                          "rule a count = 2;\n",
		"rule a bool = true or nobody;":                                    "rule a bool = true;\n",
		"input a count; input a count; rule b count = if 1 then 2 else 3;": "input a count;\ninput a count;\nrule b count = 2;\n",
	} {
		n := parsed(t, text)
		if _, e := order.Sort(n); e != api.ETYPE {
			t.Errorf("P12.1: Sort(%q): %v", text, e)
		}
		if f := Fold(n); syn.Show(f) != want || !alike(Fold(f), f) {
			t.Errorf("P15.1: Fold(%q): %s", text, syn.Show(f))
		}
	}
	if _, e := typ.Check(Fold(parsed(t, "rule a count = if true then 1 else a;"))); e != api.OK {
		t.Errorf("P11.1: Check: %v", e)
	}
}

func TestSize(t *testing.T) {
	for text, want := range map[string]int{
		"1": 1, "x": 1, "- 1": 2, "not b": 2, "1 + 2": 3, "x + (1 + 2)": 5, "if b then 1 else 2": 4, "min(1, 2)": 3, "len(l)": 2, "at(t, 1)": 2, "sum(q in l: q * 2)": 5,
		"if a and b then min(1, x) else sum(q in l: at(t, q))": 11,
	} {
		if got := Size(expression(t, text)); got != want {
			t.Errorf("P15.1: Size(%s): %d, want %d", text, got, want)
		}
	}
	// Of a statute and what is in it: each row, and each lit in it, is a node too.
	for text, want := range map[string]int{"": 1, "input a count;": 2, "rule a count = 1;": 3, "table t count count { 1: 2, else 3 }": 7, "input a count; rule b count = a + 1;": 6} {
		if got := Size(parsed(t, text)); got != want {
			t.Errorf("P15.1: Size(%q): %d, want %d", text, got, want)
		}
	}
	if got := Size(syn.Node{}); got != 1 {
		t.Errorf("P15.1: Size of one node: %d", got)
	}
}

// TestMisshapen checks R1: nodes with fewer or more kids than theirs stay, with their kids folded.
func TestMisshapen(t *testing.T) {
	shape := map[string]int{"neg": 1, "not": 1, "and": 2, "or": 2, "if": 3, "min": 2, "max": 2}
	for _, op := range strings.Fields("+ - * / < <= > >= == !=") {
		shape[op] = 2
	}
	one, yes, sum := lit(1, api.Count, 1), lit(2, api.Bool, 1), tree(3, "+", lit(4, api.Count, 2), lit(5, api.Count, 3))
	for _, op := range append(slices.Clone(allOps), "") {
		for many := range 6 {
			for _, kid := range []syn.Node{one, yes, sum, {}} {
				e := tree(6, op, slices.Repeat([]syn.Node{kid}, many)...)
				got, again := Expr(e), Fold(e)
				if shape[op] != many || many == 0 {
					want := tree(6, op, slices.Repeat([]syn.Node{Expr(kid)}, many)...)
					if !alike(got, want) {
						t.Errorf("R1: Expr(%v): %v, want %v", e, got, want)
					}
				}
				if !alike(Expr(got), got) || !alike(Fold(again), again) || Size(got) > Size(e) || Size(e) != 1+many*Size(kid) {
					t.Errorf("P15.2: of %v: %v, %v", e, got, again)
				}
				n := tree(0, "statute", e, e)
				if f := Fold(n); len(f.Kids) != 2 || op == "rule" && !alike(f.Kids[1], got) || op != "rule" && !alike(f.Kids[1], e) {
					t.Errorf("P15.1: Fold(%v): %v", n, f)
				}
			}
		}
	}
	// A lit with kids is none of syn's: it is no lit, and nothing of it is lost.
	odd := syn.Node{Op: "lit", Kind: api.Count, N: 1, Kids: []syn.Node{one}}
	for _, e := range []syn.Node{tree(0, "+", odd, one), tree(0, "+", one, odd), tree(0, "neg", odd), tree(0, "and", odd, yes), tree(0, "if", odd, yes, yes)} {
		if !alike(Expr(e), e) {
			t.Errorf("R1: Expr(%v): %v", e, Expr(e))
		}
	}
}

// TestNested checks that much that is nested is no matter.
func TestNested(t *testing.T) {
	const much = 60000
	for _, first := range []syn.Node{lit(0, api.Count, 1), name(0, "x")} {
		e := first
		for i := range much {
			switch i % 4 {
			case 0:
				e = tree(i, "neg", e)
			case 1:
				e = tree(i, "+", e, lit(i, api.Count, 2))
			case 2:
				e = tree(i, "if", lit(i, api.Bool, 1), e, lit(i, api.Count, 0))
			case 3:
				e = tree(i, "if", tree(i, "<", lit(i, api.Count, 2), lit(i, api.Count, 1)), name(i, "y"), e)
			}
		}
		f := Expr(e)
		want := 1
		if first.Op == "name" {
			want = 1 + much/4*3
		}
		if Size(f) != want || !syn.Same(Expr(f), f) {
			t.Errorf("R1: Expr of much: %d nodes, want %d", Size(f), want)
		}
		n := tree(0, "statute", syn.Node{Op: "rule", Name: "r", Kind: api.Count, Kids: []syn.Node{e}}, tree(0, "table", e))
		if g := Fold(n); Size(g) != 2+want+1+Size(e) {
			t.Errorf("R1: Fold of much: %d nodes", Size(g))
		}
	}
}
