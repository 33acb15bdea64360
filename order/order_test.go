package order

import (
	"fmt"
	"reflect"
	"slices"
	"strings"
	"testing"

	"publican/api"
	"publican/syn"
)

func parsed(t *testing.T, text string) syn.Node {
	t.Helper()
	n, at, e := syn.Parse(text)
	if e != api.OK {
		t.Fatalf("P10.1: Parse(%q): %v at %d", text, e, at)
	}
	return n
}

// names checks Names of a rule, the wanted ones parted by blanks.
func names(t *testing.T, n syn.Node, rule, want string) {
	t.Helper()
	if l := Names(n, rule); strings.Join(l, " ") != want {
		t.Errorf("P12.1: Names of %s in %q: %v, want %s", rule, syn.Show(n), l, want)
	}
}

// sorted checks Sort's answer, the wanted names parted by blanks.
func sorted(t *testing.T, text, want string) {
	t.Helper()
	if l, e := Sort(parsed(t, text)); strings.Join(l, " ") != want || e != api.OK {
		t.Errorf("P12.1: Sort(%q): %v, %v, want %s", text, l, e, want)
	}
}

// refused checks that all three calls answer an error, and no more.
func refused(t *testing.T, n syn.Node, want api.Errno) {
	t.Helper()
	if s, e := Steps(n); s != 0 || e != want {
		t.Errorf("P12.2: Steps of %.200q: %d, %v, want %v", syn.Show(n), s, e, want)
	}
	if d, e := Deep(n); d != 0 || e != want {
		t.Errorf("P12.2: Deep of %.200q: %d, %v, want %v", syn.Show(n), d, e, want)
	}
	if want == api.ELIMIT {
		want = api.OK // Sort has no such limit
	}
	if l, e := Sort(n); e != want || e != api.OK && len(l) != 0 {
		t.Errorf("P12.1: Sort of %.200q: %v, %v, want %v", syn.Show(n), l, e, want)
	}
}

// size checks Steps and Deep.
func size(t *testing.T, n syn.Node, steps int64, deep int) {
	t.Helper()
	if s, e := Steps(n); s != steps || e != api.OK {
		t.Errorf("P12.2: Steps of %.200q: %d, %v, want %d", syn.Show(n), s, e, steps)
	}
	if d, e := Deep(n); d != deep || e != api.OK {
		t.Errorf("P12.2: Deep of %.200q: %d, %v, want %d", syn.Show(n), d, e, deep)
	}
}

func TestExample(t *testing.T) {
	const text = "rule a count = 1 + b; rule b count = 2;"
	sorted(t, text, "b a")
	size(t, parsed(t, text), 8, 2)
}

func TestNames(t *testing.T) {
	n := parsed(t, `input i count; input l moneys; table t count count { else 1 }
		rule c count = 1; rule b count = 1; rule a count = 1; rule a10 count = 1; rule a2 count = 1; rule p bool = true;
		rule none count = i + at(t, i) + len(l);
		rule all count = c + b + a2 + a10 + a;
		rule twice count = b + b * c / b - c;
		rule self count = self + a;
		rule deep count = if p then -a else min(b, max(at(t, c), len(l)));
		rule bools bool = not p or p and a < b;
		rule each money = sum(x in l: x * a) + sum(y in l: sum(z in l: y * b + z * c));`)
	names(t, n, "none", "")
	names(t, n, "all", "a a10 a2 b c")
	names(t, n, "twice", "b c")
	names(t, n, "self", "a self")
	names(t, n, "deep", "a b c p")
	names(t, n, "bools", "a b p")
	names(t, n, "each", "a b c")
	for _, rule := range []string{"c", "i", "l", "t", "x", "nobody", ""} {
		names(t, n, rule, "")
	}
	for _, op := range []string{"+", "-", "*", "/", "<", "<=", ">", ">=", "==", "!=", "and", "or"} {
		names(t, parsed(t, "rule b bool = true; rule r bool = c "+op+" b; rule c bool = r;"), "r", "b c")
	}
}

// TestSumNames checks P12.1's names of sums: within its sum, behind the list, a name is the sum's, whatever rules there are.
func TestSumNames(t *testing.T) {
	for expr, want := range map[string]string{
		"sum(b in l: b)":                      "l",
		"sum(b in l: b) + b":                  "b l",
		"b + sum(b in l: b)":                  "b l",
		"sum(b in b: b)":                      "b",
		"sum(b in l: b + c)":                  "c l",
		"sum(b in l: sum(c in l: b + c))":     "l",
		"sum(b in l: sum(c in c: b + c) + c)": "c l",
		"sum(b in l: sum(b in b: b) + b)":     "l",
		"sum(b in l: sum(b in l: b)) + b":     "b l",
		"sum(b in l: sum(b in l: c) + b)":     "c l",
		"sum(x in l: b) + sum(b in l: x)":     "b l",
		"sum(r in l: r)":                      "l",
		"sum(t in l: at(t, b))":               "b l",
		"sum(b in sum(c in l: c + b): b + c)": "b c l",
	} {
		text := "rule r money = " + expr + "; rule l money = $1; rule b money = $1; rule c money = $1; table t money money { else $1 }"
		names(t, parsed(t, text), "r", want)
	}
}

// TestFaultyNames checks that Names takes a tree as it is, whatever typ says of it.
func TestFaultyNames(t *testing.T) {
	// What an input or table has the name too is no matter: there is a rule of that name.
	for _, decls := range []string{
		"input b count; rule b count = 1;", "rule b count = 1; input b count;",
		"table b count count { else 1 } rule b count = 1;", "rule b count = 1; table b count count { else 1 }",
		"rule b count = 1; rule b count = c;",
	} {
		names(t, parsed(t, "rule r count = b; "+decls), "r", "b")
		names(t, parsed(t, decls+" rule r count = b;"), "r", "b")
		names(t, parsed(t, decls+" rule r count = at(b, 1);"), "r", "")
		names(t, parsed(t, decls), "b", "")
	}
	// Of several rules of one name it is the first one.
	names(t, parsed(t, "input r count; rule r count = b; rule r count = c; rule b count = 1; rule c count = 1;"), "r", "b")
	names(t, parsed(t, "table r count count { else 1 } rule r count = c; rule r count = b; rule b count = 1; rule c count = 1;"), "r", "c")
	// A name that is nobody's, or units that do not fit, or a ring.
	names(t, parsed(t, "rule r count = $1 + nobody + b; rule b date = r;"), "r", "b")
	names(t, parsed(t, "rule r count = $1 + nobody + b; rule b date = r;"), "b", "r")
	// More names than may be.
	long := "rule r count = n70 + n71 + n1;"
	for i := range 71 {
		long += fmt.Sprintf(" rule n%d count = 1;", i)
	}
	names(t, parsed(t, long), "r", "n1 n70")
}

func TestSort(t *testing.T) {
	sorted(t, "", "")
	sorted(t, "input a count; table t count count { else 1 }", "")
	sorted(t, "rule a count = 1;", "a")
	sorted(t, "rule c count = 1; rule b count = 2; rule a count = 3;", "c b a")
	sorted(t, "rule a count = b; rule b count = c; rule c count = d; rule d count = 1;", "d c b a")
	sorted(t, "rule d count = c; rule c count = b; rule b count = a; rule a count = 1;", "a b c d")
	// Once it could be next, the first in the text is next.
	sorted(t, "rule a count = c; rule b count = 1; rule c count = 1; rule d count = 1;", "b c a d")
	sorted(t, "rule a count = d; rule b count = 1; rule c count = 1; rule d count = 1;", "b c d a")
	sorted(t, "rule a count = e; rule b count = e; rule c count = 1; rule d count = a; rule e count = 1;", "c e a b d")
	sorted(t, "rule a count = c + d; rule b count = d; rule c count = d; rule d count = 1; rule e count = 1;", "d b c a e")
	sorted(t, "rule a count = b + b + c + b; rule b count = c * c; rule c count = 1;", "c b a")
	// What stands between the rules is no matter, nor where a name stands in the expression.
	sorted(t, "rule a count = at(t, b); input i count; table t count count { else 1 } rule b count = i; input l moneys;", "b a")
	sorted(t, "input l moneys; rule a count = if true then 1 else b; rule b count = if c then 1 else 2; rule c bool = not d; rule d bool = true or e; rule e bool = false;", "e d c b a")
	sorted(t, "input l moneys; rule a money = sum(x in l: x * b); rule b count = -c; rule c count = min(1, max(d, 2)); rule d count = len(l);", "d c b a")
}

func TestRings(t *testing.T) {
	for _, text := range []string{
		"rule a count = a;",
		"rule a count = 1; rule b count = b + a; rule c count = 1;",
		"rule a count = b; rule b count = a;",
		"rule a count = b; rule b count = c; rule c count = a;",
		"rule a count = 1; rule b count = c; rule c count = d; rule d count = b + a;",
		"rule a count = b; rule b count = b;",
		"rule a count = b; rule b count = a; rule c count = a; rule d count = 1;",
		"rule a count = if false then a else 1;",
		"rule a bool = true or a;",
		"rule a count = 0 * a;",
		"input l moneys; rule a money = sum(x in l: a);",
		"input l moneys; rule a money = sum(x in l: sum(y in l: x + b)); rule b money = $1 * len(l) + a;",
		"table t count count { else 1 } rule a count = at(t, a);",
	} {
		refused(t, parsed(t, text), api.ETYPE)
	}
}

// TestFaults checks that what typ finds a fault with has no order, were its rules ever so well ordered.
func TestFaults(t *testing.T) {
	for _, text := range []string{
		"rule a money = 1;", "rule a count = $1 + 1;", "rule a count = nobody;", "rule a count = 1; rule a count = 1;",
		"rule a count = 1; input a count;", "table t rate count { else 1 }", "table t count count { else $1 }", "input l moneys; rule a moneys = l;",
		"input l moneys; rule a money = sum(b in l: b); rule b money = $1;",
		"rule a money = 1; rule b count = b;",
	} {
		refused(t, parsed(t, text), api.ETYPE)
	}
	long := ""
	for i := range api.MaxNames {
		long += fmt.Sprintf("rule n%d count = 1; ", i)
	}
	refused(t, parsed(t, long+"input i count;"), api.ETYPE)
	size(t, parsed(t, long), 3*api.MaxNames, 1)
	for _, n := range []syn.Node{
		{}, {Op: "rule", Name: "a"}, {Op: "statute", Kids: []syn.Node{{}}},
		{Op: "statute", Kids: []syn.Node{{Op: "rule", Name: "a", Kind: api.Count}}},
		{Op: "statute", Kids: []syn.Node{{Op: "rule", Name: "a", Kind: api.Count, Kids: []syn.Node{{Op: "if"}}}}},
		{Op: "statute", Kids: []syn.Node{{Op: "rule", Name: "a", Kind: api.Count, Kids: []syn.Node{{Op: "sum"}}}}},
		{Op: "statute", Kids: []syn.Node{{Op: "rule", Name: "a", Kind: api.Count, Kids: make([]syn.Node, 2)}}},
	} {
		names(t, n, "a", "")
		refused(t, n, api.ETYPE)
	}
}

// TestSize checks each sentence of P12.2, with kids that are alike in nothing.
func TestSize(t *testing.T) {
	size(t, parsed(t, ""), 0, 0)
	size(t, parsed(t, "input a count; table t count count { 1: 1, 2: 2, else 3 }"), 0, 0)
	const in = "input l moneys; input x count; input p bool; table t count count { 1: 1, else 1 } "
	one := func(expr string, steps int64, deep int) {
		t.Helper()
		size(t, parsed(t, in+"rule r count = "+expr+";"), 2+steps, deep)
	}
	one("7", 1, 1)
	one("x", 1, 1)
	for _, op := range []string{"+", "-", "*", "/"} {
		one("x "+op+" x", 3, 2)
		one("(x + 1) "+op+" 2", 5, 2)
		one("x "+op+" (1 + 2)", 5, 3)
		one("(x + 3) "+op+" (1 + 2)", 7, 3)
		one("(x + (3 + 4)) "+op+" 1", 7, 3)
		one("x "+op+" (1 + (3 + (4 + 5)))", 9, 5)
	}
	for _, op := range []string{"<", "<=", ">", ">=", "==", "!="} {
		one("if x "+op+" 1 then 1 else 2", 3+3+1, 2)
		one("if x "+op+" (1 + 1) then 1 else 2", 3+5+1, 3)
	}
	for _, op := range []string{"and", "or"} {
		one("if p "+op+" true then 1 else 2", 3+3+1, 2)
		one("if p "+op+" (p "+op+" p) then 1 else 2", 3+5+1, 3)
		one("if (p "+op+" p) "+op+" p then 1 else 2", 3+5+1, 2)
	}
	for _, call := range []string{"min", "max"} {
		one(call+"(1, 2)", 3, 2)
		one(call+"(1, x + 2)", 5, 3)
		one(call+"(x + 1, 2)", 5, 2)
	}
	one("-x", 2, 1)
	one("-(x + 1)", 4, 2)
	one("- - -x", 4, 1)
	one("if not p then 1 else 2", 3+2+1, 1)
	one("if not (p or p) then 1 else 2", 3+4+1, 2)
	one("len(l)", 2, 1)
	one("at(t, x)", 2, 1)
	one("at(t, x + (1 + 2))", 6, 3)
	one("if p then 1 else 2", 3+1+1, 1)
	one("if p then 1 + 2 else 2", 3+1+3, 2)
	one("if p then 1 else 2 + 3", 3+1+3, 2)
	one("if p then 1 + (2 + 3) else 2 + 3", 3+1+5, 3)
	one("if p then 1 + 2 else 1 + 2 + 3", 3+1+5, 2)
	one("if p and (p and p) then 1 else 2", 3+5+1, 3)
	one("if p then 1 else if p then 2 else 3", 3+1+5, 1)
	one("1 + (if p then 2 else 3)", 1+1+5, 2)
	one("(if p then 2 else 3) + 1", 1+1+5, 2)
	one("sum(y in l: x)", 4+1+16*(4+1), 4)
	one("sum(y in l: -x)", 4+1+16*(4+2), 4)
	one("sum(y in l: x + (1 + 2))", 4+1+16*(4+5), 6)
	one("-sum(y in l: 1)", 1+85, 4)
	one("1 + sum(y in l: 1)", 1+1+85, 5)
	one("sum(y in l: 1) + sum(y in l: 1)", 1+85+85, 5)
	one("sum(y in l: sum(z in l: 1))", 4+1+16*(4+85), 7)
}

// TestSeveral checks that Steps is of all rules together, and Deep of the deepest one.
func TestSeveral(t *testing.T) {
	size(t, parsed(t, "rule a count = 1 + (2 + 3); rule b count = 1;"), 7+3, 3)
	size(t, parsed(t, "rule b count = 1; rule a count = 1 + (2 + 3);"), 7+3, 3)
	size(t, parsed(t, "rule a count = b + (b + b); input i count; rule b count = i * i; table t count count { else 1 } rule c count = at(t, a);"), 7+5+4, 3)
}

// weighing tells a statute of just so many steps: sums within sums, as if to a base of 16.
func weighing(steps int64) string {
	return "input l moneys; rule r count = " + weight(steps-2, "x") + ";"
}

func weight(steps int64, name string) string {
	if steps < 5+16*5 {
		one := strings.Repeat(" + 1", int(steps-1)/2)
		if steps%2 == 0 {
			return "-1" + one
		}
		return "1" + one
	}
	more := (steps - 5 - 16*4) % 16
	s := "sum(" + name + " in l: " + weight((steps-5-16*4)/16, name+"x") + ")" + strings.Repeat(" + 1", int(more)/2)
	if more%2 == 1 {
		return "-" + s
	}
	return s
}

func TestLimit(t *testing.T) {
	for _, steps := range []int64{3, 4, 100, 12345, 1<<40 - 17, 1<<40 - 1, 1 << 40} {
		if s, e := Steps(parsed(t, weighing(steps))); s != steps || e != api.OK {
			t.Errorf("P12.2: Steps: %d, %v, want %d", s, e, steps)
		}
		if d, e := Deep(parsed(t, weighing(steps))); d == 0 || e != api.OK {
			t.Errorf("P12.2: Deep where Steps is %d: %d, %v", steps, d, e)
		}
	}
	for _, steps := range []int64{1<<40 + 1, 1<<40 + 2, 1<<40 + 15, 1 << 41, 1 << 60} {
		refused(t, parsed(t, weighing(steps)), api.ELIMIT)
	}
	// The rules together.
	size(t, parsed(t, weighing(1<<40-3)+" rule s count = 1;"), 1<<40, 2+3*9)
	refused(t, parsed(t, weighing(1<<40-2)+" rule s count = 1;"), api.ELIMIT)
	refused(t, parsed(t, "rule s count = -1; "+weighing(1<<40-3)), api.ELIMIT)
	// What typ or the order says is ahead of it.
	refused(t, parsed(t, weighing(1<<41)+" rule s count = s;"), api.ETYPE)
	refused(t, parsed(t, weighing(1<<41)+" rule s count = $1;"), api.ETYPE)
}

// nested tells a statute whose expression is so deep, of the forms that are named.
func nested(deep int, ops ...string) syn.Node {
	e := syn.Node{Op: "lit", Kind: api.Count, N: 1}
	list := syn.Node{Op: "name", Name: "l"}
	for i := range deep {
		e = syn.Node{Op: ops[i%len(ops)], Kids: []syn.Node{e}}
		switch e.Op {
		case "+":
			e.Kids = []syn.Node{{Op: "name", Name: "b"}, e.Kids[0]}
		case "sum":
			e.Name, e.Kids = fmt.Sprint("s", i), []syn.Node{list, e.Kids[0]}
		}
	}
	return syn.Node{Op: "statute", Kids: []syn.Node{
		{Op: "rule", Name: "a", Kind: api.Count, Kids: []syn.Node{e}},
		{Op: "input", Name: "l", Kind: api.List},
		{Op: "rule", Name: "b", Kind: api.Count, Kids: []syn.Node{{Op: "lit", Kind: api.Count}}},
	}}
}

// TestNested checks that much that is nested is no matter, and that no number gets too great for its limit to be told.
func TestNested(t *testing.T) {
	const much = 60000
	n := nested(much, "neg", "+")
	names(t, n, "a", "b")
	if l, e := Sort(n); !slices.Equal(l, []string{"b", "a"}) || e != api.OK {
		t.Errorf("R1: Sort of much: %v, %v", l, e)
	}
	if s, e := Steps(n); s != 2+1+much/2+much/2*2+3 || e != api.OK {
		t.Errorf("R1: Steps of much: %d, %v", s, e)
	}
	if d, e := Deep(n); d != 1+much/2 || e != api.OK {
		t.Errorf("R1: Deep of much: %d, %v", d, e)
	}
	for deep := 10; deep < 40; deep++ {
		refused(t, nested(deep, "sum"), api.ELIMIT)
	}
	sums := nested(much, "sum", "neg", "+")
	for _, call := range []func() api.Errno{
		func() api.Errno { _, e := Steps(sums); return e },
		func() api.Errno { _, e := Deep(sums); return e },
	} {
		if e := call(); e != api.ELIMIT {
			t.Errorf("R1: of much that is in sums: %v", e)
		}
	}
}

// TestMemory checks R4: what is answered is its own, and nothing that is handed in is changed.
func TestMemory(t *testing.T) {
	const text = "input l moneys; rule a money = b + c + b + d + b + e + f + c; rule b money = $1; rule c money = $1; rule d money = $1; rule e money = $1; rule f money = sum(x in l: x + b);"
	n := parsed(t, text)
	found := Names(n, "a")
	order, _ := Sort(n)
	Steps(n)
	Deep(n)
	for _, l := range [][]string{found, order} {
		for i, s := range l[len(l):cap(l)] {
			if s != "" {
				t.Errorf("R4: spare room, place %d: %q", i, s)
			}
		}
		for i := range l {
			l[i] = "spoilt"
		}
	}
	if !reflect.DeepEqual(n, parsed(t, text)) {
		t.Errorf("R4: the tree was changed: %v", n)
	}
	names(t, n, "a", "b c d e f")
	sorted(t, text, "b c d e f a")
}
