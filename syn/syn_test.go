package syn

import (
	"math"
	"reflect"
	"strings"
	"testing"

	"publican/api"
)

// read checks that a text is a statute, and tells it.
func read(t *testing.T, text string) Node {
	t.Helper()
	n, at, e := Parse(text)
	if e != api.OK || at != 0 || n.Op != "statute" {
		t.Fatalf("P10.1: Parse(%q): %v, %d, %v, want a statute", text, n, at, e)
	}
	return n
}

// shown checks what a text's tree is written as, and that this is the same tree.
func shown(t *testing.T, text, want string) {
	t.Helper()
	n := read(t, text)
	if s := Show(n); s != want {
		t.Errorf("P10.1: Show of %q: %q, want %q", text, s, want)
	}
	if m := read(t, want); !Same(n, m) || Show(m) != want {
		t.Errorf("P10.2: Parse of %q is not the tree of %q", want, text)
	}
}

// refused checks that a text is refused, why and where, with no tree beside it.
func refused(t *testing.T, text string, why api.Errno, where int) {
	t.Helper()
	n, at, e := Parse(text)
	if e != why || at != where || !reflect.DeepEqual(n, Node{}) {
		t.Errorf("P10.1: Parse(%q): %v, %d, %v, want %v at %d and no tree", text, n, at, e, why, where)
	}
}

func TestExamples(t *testing.T) {
	shown(t, "rule t money = $1 + $2;", "rule t money = ($1.00 + $2.00);\n")
}

// TestNodes holds every field of each kind of node against the chapter's table.
func TestNodes(t *testing.T) {
	lit := func(k api.Kind, n int64, at int) Node { return Node{Op: "lit", Kind: k, N: n, At: at} }
	name := func(s string, at int) Node { return Node{Op: "name", Name: s, At: at} }
	two := func(op string, at int, a, b Node) Node { return Node{Op: op, At: at, Kids: []Node{a, b}} }
	for text, want := range map[string]Node{
		"input a bool;":   {Op: "input", Name: "a", Kind: api.Bool},
		"input a count;":  {Op: "input", Name: "a", Kind: api.Count},
		"input a money;":  {Op: "input", Name: "a", Kind: api.Money},
		"input a rate;":   {Op: "input", Name: "a", Kind: api.Rate},
		"input a date;":   {Op: "input", Name: "a", Kind: api.Date},
		"input a moneys;": {Op: "input", Name: "a", Kind: api.List},
		"table t date money { 1900-01-02: $1.50, else $0 }": {Op: "table", Name: "t", Kind: api.Money, N: int64(api.Date), Kids: []Node{
			{Op: "row", At: 21, Kids: []Node{lit(api.Date, 1, 21), lit(api.Money, 150, 33)}},
			{Op: "row", At: 40, Kids: []Node{lit(api.Money, 0, 45)}},
		}},
		"table t moneys bool { else true }": {Op: "table", Name: "t", Kind: api.Bool, N: int64(api.List), Kids: []Node{
			{Op: "row", At: 22, Kids: []Node{lit(api.Bool, 1, 27)}},
		}},
	} {
		if n := read(t, text); !reflect.DeepEqual(n, Node{Op: "statute", Kids: []Node{want}}) {
			t.Errorf("P10.1: Parse(%q): %v, want %v", text, n, want)
		}
	}
	for text, want := range map[string]Node{
		"7":                      lit(api.Count, 7, 15),
		"4503599627370496":       lit(api.Count, api.MaxMoney, 15),
		"$1.50":                  lit(api.Money, 150, 15),
		"4.5%":                   lit(api.Rate, 45000, 15),
		"2024-01-01":             lit(api.Date, 45290, 15),
		"true":                   lit(api.Bool, 1, 15),
		"false":                  lit(api.Bool, 0, 15),
		"xs":                     name("xs", 15),
		"((xs))":                 name("xs", 17),
		"if a then b else c":     {Op: "if", At: 15, Kids: []Node{name("a", 18), name("b", 25), name("c", 32)}},
		"a+b":                    two("+", 16, name("a", 15), name("b", 17)),
		"a - b":                  two("-", 17, name("a", 15), name("b", 19)),
		"a * b":                  two("*", 17, name("a", 15), name("b", 19)),
		"a / b":                  two("/", 17, name("a", 15), name("b", 19)),
		"a < b":                  two("<", 17, name("a", 15), name("b", 19)),
		"a <= b":                 two("<=", 17, name("a", 15), name("b", 20)),
		"a > b":                  two(">", 17, name("a", 15), name("b", 19)),
		"a >= b":                 two(">=", 17, name("a", 15), name("b", 20)),
		"a == b":                 two("==", 17, name("a", 15), name("b", 20)),
		"a != b":                 two("!=", 17, name("a", 15), name("b", 20)),
		"a and b":                two("and", 17, name("a", 15), name("b", 21)),
		"a or b":                 two("or", 17, name("a", 15), name("b", 20)),
		"-a":                     {Op: "neg", At: 15, Kids: []Node{name("a", 16)}},
		"not a":                  {Op: "not", At: 15, Kids: []Node{name("a", 19)}},
		"-5":                     {Op: "neg", At: 15, Kids: []Node{lit(api.Count, 5, 16)}},
		"min(a, b)":              two("min", 15, name("a", 19), name("b", 22)),
		"max(a, b)":              two("max", 15, name("a", 19), name("b", 22)),
		"len(a)":                 {Op: "len", At: 15, Kids: []Node{name("a", 19)}},
		"at(t, a)":               {Op: "at", Name: "t", At: 15, Kids: []Node{name("a", 21)}},
		"sum(x in l: x)":         {Op: "sum", Name: "x", At: 15, Kids: []Node{name("l", 24), name("x", 27)}},
		"(a) + (# remark\n (b))": two("+", 19, name("a", 16), name("b", 33)),
	} {
		n := read(t, "rule r count = "+text+" ; ")
		rule := Node{Op: "rule", Name: "r", Kind: api.Count, Kids: []Node{want}}
		if !reflect.DeepEqual(n, Node{Op: "statute", Kids: []Node{rule}}) {
			t.Errorf("P10.1: Parse of the rule %q: %v, want %v", text, n, rule)
		}
	}
}

func TestStatutes(t *testing.T) {
	shown(t, "", "")
	shown(t, " \n# nothing", "")
	shown(t, "input a money;input b moneys;", "input a money;\ninput b moneys;\n")
	shown(t, "rule a bool=true;table t date rate{else 1%}input a moneys;rule a date=2199-12-31;",
		"rule a bool = true;\ntable t date rate { else 1.0000% }\ninput a moneys;\nrule a date = 2199-12-31;\n")
	for text, want := range map[string]int{"": 0, "  ": 2, "#x\n": 3, "\n input a bool; input b bool;": 2} {
		if n := read(t, text); n.At != want {
			t.Errorf("P10.1: the statute of %q stands at %d, want %d", text, n.At, want)
		}
	}
}

// TestBinding checks how tightly operators bind, and that those of one level are read from the left.
func TestBinding(t *testing.T) {
	for text, want := range map[string]string{
		"a or b or c":                         "((a or b) or c)",
		"a and b and c":                       "((a and b) and c)",
		"a or b and c or d":                   "((a or (b and c)) or d)",
		"(a or b) and c":                      "((a or b) and c)",
		"a - b - c":                           "((a - b) - c)",
		"a - (b - c)":                         "(a - (b - c))",
		"a / b * c / d":                       "(((a / b) * c) / d)",
		"a + b * c - d / e":                   "((a + (b * c)) - (d / e))",
		"a * b + c * d":                       "((a * b) + (c * d))",
		"a + b < c * d":                       "((a + b) < (c * d))",
		"a < b and c >= d or e != f":          "(((a < b) and (c >= d)) or (e != f))",
		"(a < b) < c":                         "((a < b) < c)",
		"not a == b":                          "((not a) == b)",
		"not a and b":                         "((not a) and b)",
		"not not a":                           "(not (not a))",
		"- not - a":                           "(- (not (- a)))",
		"a - -b":                              "(a - (- b))",
		"-a*-b":                               "((- a) * (- b))",
		"-(a * b)":                            "(- (a * b))",
		"if a or b then c + d else e + f":     "(if (a or b) then (c + d) else (e + f))",
		"(if a then b else c) + d":            "((if a then b else c) + d)",
		"if a then if b then c else d else e": "(if a then (if b then c else d) else e)",
		"if if a then b else c then d else e": "(if (if a then b else c) then d else e)",
		"min(a or b, if a then b else c)":     "min((a or b), (if a then b else c))",
		"max(min(a, b), c) - len(a + b)":      "(max(min(a, b), c) - len((a + b)))",
		"sum(x in a + b: if x then y else z)": "sum(x in (a + b): (if x then y else z))",
		"sum(x in l: sum(x in l: x))":         "sum(x in l: sum(x in l: x))",
		"at(t, at(u, a and b))":               "at(t, at(u, (a and b)))",
	} {
		shown(t, "rule r count = "+text+";", "rule r count = "+want+";\n")
	}
}

func TestLits(t *testing.T) {
	for text, want := range map[string]string{
		"0": "0", "007": "7", "4503599627370496": "4503599627370496",
		"$0": "$0.00", "$1": "$1.00", "$1.05": "$1.05", "$0.50": "$0.50", "$0012.34": "$12.34", "$45035996273704.96": "$45035996273704.96",
		"0%": "0.0000%", "1%": "1.0000%", "0.0001%": "0.0001%", "0.05%": "0.0500%", "12.345%": "12.3450%", "100000000%": "100000000.0000%",
		"1900-01-01": "1900-01-01", "2024-02-29": "2024-02-29", "2199-12-31": "2199-12-31", "true": "true", "false": "false",
	} {
		shown(t, "rule r count = "+text+";", "rule r count = "+want+";\n")
		shown(t, "table t bool bool { "+text+": "+text+", else "+text+" }", "table t bool bool { "+want+": "+want+", else "+want+" }\n")
	}
}

func TestLexFirst(t *testing.T) {
	refused(t, strings.Repeat(" ", 8193), api.ELIMIT, 0)
	refused(t, "rule "+strings.Repeat("(", 8188), api.ELIMIT, 0)
	refused(t, "rule a count = 1 rule b count = $1.5;", api.ESYNTAX, 34)
	refused(t, "rule rule ? !", api.ESYNTAX, 10)
	refused(t, "rule r count = "+strings.Repeat("(", 50)+"?", api.ESYNTAX, 65)
	shown(t, "input a bool;"+strings.Repeat(" ", 8192-13), "input a bool;\n")
}

// TestCut cuts a statute off behind each of its words: the end fits nothing there, but behind a declaration.
func TestCut(t *testing.T) {
	words := strings.Fields("input a money ; rule r count = if a then min ( - b , 1 ) else ( max ( len ( c ) , at ( t , d ) ) + sum ( x in l : not x ) ) ; table t count bool { 1 : true , 2 : false , else true } rule s date = 2024-01-01 ;")
	whole := 0
	for i := range words {
		text := strings.Join(words[:i], " ")
		if i == 0 || i == 4 || words[i-1] == "}" || words[i-1] == ";" {
			read(t, text)
			whole++
			continue
		}
		refused(t, text, api.ESYNTAX, len(text))
	}
	if whole != 4 {
		t.Errorf("%d whole texts", whole)
	}
}

func TestWrong(t *testing.T) {
	for text, where := range map[string]int{
		"x": 0, ";": 0, "1": 0, "else": 0, "input a money;;": 14, "input a money; x": 15,
		"input if money;": 6, "input 1 money;": 6, "input a b;": 8, "input a moneys": 14, "input a money,": 13, "input a input;": 8, "input a money count;": 14,
		"rule a = 1;": 7, "rule count count = 1;": 5, "rule a count == 1;": 13, "rule a count 1;": 13, "rule a count = 1": 16, "rule a count = 1,": 16,
		"table t { else 1 }": 8, "table t count { else 1 }": 14, "table t count count count { else 1 }": 20, "table t count count else 1": 20, "table t count count {}": 21,
		"table t count count { else 1 } ;": 31, "table t count count { else 1; }": 28, "table t count count { else }": 27, "table t count count { else x }": 27, "table t count count { else -1 }": 27, "table t count count { else (1) }": 27,
		"table t count count { 1 2, else 3 }": 24, "table t count count { 1: 2; else 3 }": 26, "table t count count { 1: x, else 3 }": 25, "table t count count { 1: 2, 3 }": 30, "table t count count { 1: 2, else 3, }": 34, "table t count count { else 3, else 4 }": 28,
		"table t count count { 1: 2, else 3: 4 }": 34, "table if count count { else 1 }": 6,
	} {
		refused(t, text, api.ESYNTAX, where)
	}
	for text, where := range map[string]int{
		"": 0, ")": 0, "()": 1, "(a": 2, "(a]": 2, "a)": 1, "a b": 2, "a 1": 2, "+ a": 0, "* a": 0, "a +": 3, "a + * b": 4, "a - and b": 4, "not": 3, "not or a": 4, "-": 1, "a not b": 2,
		"a < b < c": 6, "a == b != c": 7, "a < b + c >= d": 10, "a = b": 2, "a ! = b": -1,
		"1 + if a then b else c": 4, "- if a then b else c": 2, "not if a then b else c": 4, "a and if a then b else c": 6,
		"if a": 4, "if a else b": 5, "if a then b": 11, "if a then b then c": 12, "if then b else c": 3, "if a then else c": 10, "if a then b else": 16,
		"min": 3, "min a": 4, "min()": 4, "min(a)": 5, "min(a,)": 6, "min(a, b": 8, "min(a, b, c)": 8, "max(a; b)": 5, "max(a b)": 6,
		"len": 3, "len l": 4, "len()": 4, "len(a, b)": 5, "at": 2, "at(1, 2)": 3, "at(t)": 4, "at((t), 2)": 3, "at(t, )": 6, "at(min, 2)": 3, "at(t: 2)": 4,
		"sum": 3, "sum(l)": 5, "sum(1 in l: x)": 4, "sum(in in l: x)": 4, "sum(x, l: x)": 5, "sum(x in l)": 10, "sum(x in l, x)": 10, "sum(x in : x)": 9, "sum(x in l: )": 12, "sum(x in l: x": 13,
		"then": 0, "in": 0, "count": 0, "input": 0, "min + a": 4, "a(b)": 1, "{a}": 0, "[a]": 0, "a : b": 2, "true false": 5, "1.5": -1, "$1 %": -1,
	} {
		if where >= 0 {
			refused(t, "rule r count = "+text, api.ESYNTAX, 15+where)
		}
		if _, _, e := Parse("rule r count = " + text + " ;"); e != api.ESYNTAX {
			t.Errorf("P10.1: Parse of the rule %q: %v, want ESYNTAX", text, e)
		}
	}
}

// wraps are the ways in which one expression stands in another, and how far its first deeper word is from its beginning.
var wraps = []struct {
	ahead, behind string
	first         int
}{
	{"(", ")", 1}, {"- ", "", 2}, {"-", "", 1}, {"not ", "", 4}, {"len(", ")", 4}, {"at(t, ", ")", 6},
	{"min(", ", 1)", 4}, {"min(1, ", ")", 4}, {"max(", ", a)", 4}, {"max(a, ", ")", 4},
	{"sum(x in ", ": x)", 9}, {"sum(x in l: ", ")", 9},
	{"if ", " then a else b", 3}, {"if a then ", " else b", 3}, {"if a then b else ", "", 3},
}

func TestDeep(t *testing.T) {
	for _, w := range wraps {
		text := func(n int) string {
			return "rule r count = " + strings.Repeat(w.ahead, n) + "1" + strings.Repeat(w.behind, n) + ";"
		}
		read(t, text(38))
		read(t, text(39))
		for _, n := range []int{40, 41, 100} {
			refused(t, text(n), api.ELIMIT, 15+39*len(w.ahead)+w.first)
		}
		for _, v := range wraps {
			mixed := func(n int) string {
				return "input a bool; rule r count = 1 + " + strings.Repeat(w.ahead, n) + v.ahead + "1" + v.behind + strings.Repeat(w.behind, n) + ";"
			}
			if strings.HasPrefix(w.ahead, "if") || strings.HasPrefix(v.ahead, "if") {
				continue
			}
			read(t, mixed(38))
			refused(t, mixed(39), api.ELIMIT, 33+39*len(w.ahead)+v.first)
		}
	}
	// What stands beside is no deeper.
	in := strings.Repeat("(", 39) + "a" + strings.Repeat(")", 39)
	read(t, "rule r count = "+in+" + "+in+" * "+in+"; rule s count = "+in+"; rule t count = 1"+strings.Repeat(" + 1", 1000)+";")
	refused(t, "rule r count = "+in+" + -"+in+" * "+in+";", api.ELIMIT, 15+len(in)+4+39)
	// A row of operators is one deep, but in brackets it is too deep.
	n := read(t, "rule r count = 1"+strings.Repeat(" + 1", 40)+";")
	if _, _, e := Parse(Show(n)); e != api.ELIMIT {
		t.Errorf("P10.2: a row of 40 operators, written: %v", e)
	}
	n = read(t, "rule r count = 1"+strings.Repeat(" + 1", 39)+";")
	if m := read(t, Show(n)); !Same(m, n) {
		t.Errorf("P10.2: a row of 39 operators, written, is another one")
	}
}

func TestRows(t *testing.T) {
	table := func(n int) string { return "table t count count { " + strings.Repeat("1: 2, ", n) + "else 3 }" }
	for _, n := range []int{0, 1, 2, 30, 31} {
		shown(t, table(n), table(n)+"\n")
		if rows := read(t, table(n)).Kids[0].Kids; len(rows) != n+1 {
			t.Errorf("P10.1: %d rows, want %d", len(rows), n+1)
		}
	}
	for _, n := range []int{32, 33, 64, 1000} {
		refused(t, table(n), api.ELIMIT, 22+32*6)
	}
	refused(t, table(31)+" "+table(32), api.ELIMIT, len(table(31))+1+22+32*6)
	read(t, strings.Repeat(table(31), 20))
}

// TestFormAheadOfLimits checks R6: ESYNTAX is named ahead of ELIMIT, wherever the two stand.
func TestFormAheadOfLimits(t *testing.T) {
	refused(t, "rule r count = "+strings.Repeat("(", 40)+";", api.ESYNTAX, 55)
	refused(t, "rule r count = "+strings.Repeat("-", 40)+")", api.ESYNTAX, 55)
	refused(t, "rule r count = "+strings.Repeat("(", 41), api.ESYNTAX, 56)
	refused(t, "rule r count = "+strings.Repeat("(", 8000), api.ESYNTAX, 8015)
	refused(t, "rule r count = "+strings.Repeat("-", 50)+"a; rule", api.ESYNTAX, 72)
	refused(t, "table t count count { "+strings.Repeat("1: 2, ", 32)+"}", api.ESYNTAX, 22+32*6)
	refused(t, "table t count count { "+strings.Repeat("1: 2, ", 40)+"else 3, }", api.ESYNTAX, 22+40*6+6)
	deep := "rule r count = " + strings.Repeat("-", 40) + "a;"
	long := "table t count count { " + strings.Repeat("1: 2, ", 32) + "else 3 }"
	refused(t, deep+long, api.ELIMIT, 55)
	refused(t, long+deep, api.ELIMIT, 22+32*6)
	refused(t, deep+deep, api.ELIMIT, 55)
}

// TestDeepest reads, writes and compares what is nested as far as it can be.
func TestDeepest(t *testing.T) {
	half := (8192 - 17) / 2
	refused(t, "rule r count = "+strings.Repeat("(", half)+"1"+strings.Repeat(")", half)+";", api.ELIMIT, 55)
	refused(t, "rule r count = "+strings.Repeat("-", 2*half)+"1;", api.ELIMIT, 55)
	refused(t, "rule r count = "+strings.Repeat("if ", 2700)+"1;", api.ESYNTAX, 15+8100+1)
	build := func() Node {
		n := Node{Op: "name", Name: "a"}
		for range 1<<16 - 1 {
			n = Node{Op: "neg", Kids: []Node{n}}
		}
		return n
	}
	a, b := build(), build()
	if s := Show(a); s != strings.Repeat("(- ", 1<<16-1)+"a"+strings.Repeat(")", 1<<16-1) {
		t.Errorf("P10.1: Show of 2^16 nested nodes: %d bytes", len(s))
	}
	if !Same(a, b) || Same(a, b.Kids[0]) {
		t.Errorf("P10.1: Same of 2^16 nested nodes")
	}
}

func TestShowLits(t *testing.T) {
	for _, c := range []struct {
		kind api.Kind
		n    int64
		want string
	}{
		{api.Count, 0, "0"}, {api.Count, -7, "-7"}, {api.Count, math.MinInt64, "-9223372036854775808"}, {api.Count, -api.MaxMoney, "-4503599627370496"},
		{api.Money, 0, "$0.00"}, {api.Money, 5, "$0.05"}, {api.Money, -5, "-$0.05"}, {api.Money, -50, "-$0.50"}, {api.Money, 100, "$1.00"}, {api.Money, -123456, "-$1234.56"}, {api.Money, math.MinInt64, "-$92233720368547758.08"},
		{api.Rate, 0, "0.0000%"}, {api.Rate, 1, "0.0001%"}, {api.Rate, -1, "-0.0001%"}, {api.Rate, -45000, "-4.5000%"}, {api.Rate, 9999, "0.9999%"}, {api.Rate, 10000, "1.0000%"}, {api.Rate, math.MinInt64, "-922337203685477.5808%"},
		{api.Date, 0, "1900-01-01"}, {api.Date, api.MaxDay, "2199-12-31"}, {api.Date, api.MaxDay + 1, ""}, {api.Date, -1, ""}, {api.Date, math.MaxInt64, ""}, {api.Date, math.MinInt64, ""},
		{api.Bool, 0, "false"}, {api.Bool, 1, "true"}, {api.Bool, 2, ""}, {api.Bool, -1, ""},
		{api.None, 1, ""}, {api.List, 1, ""}, {7, 1, ""}, {-1, 1, ""},
	} {
		if s := Show(Node{Op: "lit", Kind: c.kind, N: c.n, At: 3}); s != c.want {
			t.Errorf("P10.1: Show of a lit of kind %d, %d: %q, want %q", c.kind, c.n, s, c.want)
		}
		// It is written so within another, too.
		if s := Show(Node{Op: "not", Kids: []Node{{Op: "lit", Kind: c.kind, N: c.n}}}); s != "(not "+c.want+")" {
			t.Errorf("P10.1: Show of not a lit of kind %d, %d: %q, want %q", c.kind, c.n, s, c.want)
		}
	}
}

// kidsOf tells how many kids a node has, beside statutes, tables and rows.
var kidsOf = map[string]int{
	"input": 0, "rule": 1, "lit": 0, "name": 0, "if": 3, "neg": 1, "not": 1, "min": 2, "max": 2, "len": 1, "at": 1, "sum": 2,
	"+": 2, "-": 2, "*": 2, "/": 2, "<": 2, "<=": 2, ">": 2, ">=": 2, "==": 2, "!=": 2, "and": 2, "or": 2,
}

func TestShowOther(t *testing.T) {
	one := Node{Op: "name", Name: "a"}
	kids := []Node{one, one, one, one}
	for op, want := range kidsOf {
		for n := range 5 {
			s := Show(Node{Op: op, Name: "x", Kind: api.Count, Kids: kids[:n]})
			if (s != "") != (n == want) {
				t.Errorf("P10.1: Show of %s with %d kids: %q", op, n, s)
			}
		}
	}
	for _, op := range []string{"", "what", "if ", "IF", "statutes", "true", "(", "%", "E", "N", "K", "O", "in", "else", "rows"} {
		for n := range 4 {
			if s := Show(Node{Op: op, Name: "x", Kind: api.Count, N: 1, Kids: kids[:n]}); s != "" {
				t.Errorf("P10.1: Show of the Op %q with %d kids: %q", op, n, s)
			}
		}
	}
	for _, kind := range []api.Kind{api.None, 7, -1, math.MaxInt, math.MinInt} {
		for _, op := range []string{"input", "rule"} {
			if s := Show(Node{Op: op, Name: "x", Kind: kind, Kids: kids[:kidsOf[op]]}); s != "" {
				t.Errorf("P10.1: Show of %s of the kind %d: %q", op, kind, s)
			}
		}
	}
	// A kid that is another node is nothing; a name is written as it is.
	for _, c := range []struct {
		n    Node
		want string
	}{
		{Node{Op: "+", Kids: []Node{one, {Op: "what"}}}, "(a + )"},
		{Node{Op: "statute", Kids: []Node{one, {}, {Op: "not", Kids: kids[:1]}}}, "a\n\n(not a)\n"},
		{Node{Op: "statute", Name: "x", Kind: 9, N: 9}, ""},
		{Node{Op: "name", Name: "NEKO if\xff"}, "NEKO if\xff"},
		{Node{Op: "name"}, ""},
		{Node{Op: "sum", Name: "E", Kids: kids[:2]}, "sum(E in a: a)"},
		{Node{Op: "at", Name: "N", Kids: kids[:1]}, "at(N, a)"},
		{Node{Op: "neg", Kids: []Node{{Op: "lit", Kind: api.Count, N: -1}}}, "(- -1)"},
	} {
		if s := Show(c.n); s != c.want {
			t.Errorf("P10.1: Show of %v: %q, want %q", c.n, s, c.want)
		}
	}
}

func TestShowTables(t *testing.T) {
	lit := Node{Op: "lit", Kind: api.Count, N: 1}
	row, last := Node{Op: "row", Kids: []Node{lit, lit}}, Node{Op: "row", Kids: []Node{lit}}
	table := func(key int64, kind api.Kind, rows ...Node) Node {
		return Node{Op: "table", Name: "t", N: key, Kind: kind, Kids: rows}
	}
	for _, c := range []struct {
		n    Node
		want string
	}{
		{table(2, api.List, last), "table t count moneys { else 1 }"},
		{table(6, api.Bool, row, last), "table t moneys bool { 1: 1, else 1 }"},
		{table(5, api.Rate, row, row, last), "table t date rate { 1: 1, 1: 1, else 1 }"},
		{table(2, api.Count), ""},
		{table(2, api.Count, row), ""},
		{table(2, api.Count, last, last), ""},
		{table(2, api.Count, last, row), ""},
		{table(2, api.Count, row, Node{Op: "row"}), ""},
		{table(2, api.Count, row, Node{Op: "neg", Kids: []Node{lit}}), ""},
		{table(2, api.Count, Node{Op: "+", Kids: []Node{lit, lit}}, last), ""},
		{table(2, api.Count, Node{Op: "row", Kids: []Node{lit, lit, lit}}, last), ""},
		{table(0, api.Count, row, last), ""},
		{table(7, api.Count, row, last), ""},
		{table(math.MinInt64, api.Count, row, last), ""},
		{table(2, api.None, row, last), ""},
		{table(2, 7, row, last), ""},
		{row, "1: 1, "},
		{last, "else 1"},
		{Node{Op: "row"}, ""},
		{Node{Op: "row", Kids: []Node{lit, lit, lit}}, ""},
	} {
		if s := Show(c.n); s != c.want {
			t.Errorf("P10.1: Show of %v: %q, want %q", c.n, s, c.want)
		}
	}
}

func TestSame(t *testing.T) {
	build := func(at int) Node {
		return Node{Op: "sum", Name: "x", Kind: api.Money, N: 5, At: at, Kids: []Node{
			{Op: "name", Name: "l", At: at + 1},
			{Op: "not", At: at + 2, Kids: []Node{{Op: "lit", Kind: api.Count, N: 3, At: at + 3}}},
		}}
	}
	if !Same(build(0), build(0)) || !Same(build(0), build(90)) || !Same(Node{}, Node{At: 7}) {
		t.Errorf("P10.1: Same is false of two that are alike")
	}
	if !Same(Node{Op: "statute"}, Node{Op: "statute", Kids: []Node{}}) {
		t.Errorf("R4: Same is false of nil and an empty list")
	}
	for i, change := range []func(n *Node){
		func(n *Node) { n.Op = "at" },
		func(n *Node) { n.Name = "y" },
		func(n *Node) { n.Kind = api.Rate },
		func(n *Node) { n.N = 6 },
		func(n *Node) { n.Kids = n.Kids[:1] },
		func(n *Node) { n.Kids = nil },
		func(n *Node) { n.Kids = append(n.Kids, Node{}) },
		func(n *Node) { n.Kids[0], n.Kids[1] = n.Kids[1], n.Kids[0] },
		func(n *Node) { n.Kids[0].Name = "m" },
		func(n *Node) { n.Kids[1].Kids[0].N = 4 },
		func(n *Node) { n.Kids[1].Kids[0].Kind = api.Money },
		func(n *Node) { n.Kids[1].Kids[0].Op = "" },
		func(n *Node) { n.Kids[1].Kids[0].Kids = []Node{{}} },
	} {
		n := build(0)
		change(&n)
		if Same(n, build(0)) || Same(build(0), n) {
			t.Errorf("P10.1: Same is true of two that differ, number %d", i)
		}
		if !Same(n, n) {
			t.Errorf("P10.1: Same is false of one, number %d", i)
		}
	}
}
