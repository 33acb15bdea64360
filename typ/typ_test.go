package typ

import (
	"fmt"
	"reflect"
	"strings"
	"testing"

	"publican/api"
	"publican/syn"
)

func parsed(t *testing.T, text string) syn.Node {
	t.Helper()
	n, at, e := syn.Parse(text)
	if e != api.OK {
		t.Fatalf("P10.1: Parse(%q): %v at %d", text, e, at)
	}
	return n
}

// expression tells the tree of an expression's text.
func expression(t *testing.T, text string) syn.Node {
	t.Helper()
	return parsed(t, "rule q bool = "+text+";").Kids[0].Kids[0]
}

// good checks that a text is a statute.
func good(t *testing.T, text string) {
	t.Helper()
	if at, e := Check(parsed(t, text)); at != 0 || e != api.OK {
		t.Errorf("P11.1: Check(%q): %d, %v, want no fault", text, at, e)
	}
}

// bad checks that a text has its first fault behind its mark, a ~.
func bad(t *testing.T, marked string) {
	t.Helper()
	want := strings.Index(marked, "~")
	if at, e := Check(parsed(t, strings.Replace(marked, "~", "", 1))); at != want || e != api.ETYPE {
		t.Errorf("P11.1: Check(%q): %d, %v, want ETYPE at %d", marked, at, e, want)
	}
}

func TestExample(t *testing.T) {
	bad(t, "rule a money = $1 ~+ 2;")
}

func TestDeclarations(t *testing.T) {
	good(t, "")
	good(t, "# nothing")
	good(t, "input a moneys; input b bool; rule c date = 2024-01-01; table d count rate { else 1% }")
	bad(t, "input a money; ~input a money;")
	bad(t, "input a money; ~rule a money = $1;")
	bad(t, "input a money; ~table a count count { else 1 }")
	bad(t, "rule a money = $1; ~input a money;")
	bad(t, "rule a money = $1; ~rule a money = $1;")
	bad(t, "table a count count { else 1 } ~rule a money = $1;")
	bad(t, "input a money; input b money; ~input b money; input a money;")
	bad(t, "input a money; input b money; ~input a money; input b money;")
	good(t, "input a money; input a1 money; input aa money;")
}

// TestMany checks MaxNames, with inputs, rules and tables counted together.
func TestMany(t *testing.T) {
	forms := []string{"input n%d money; ", "rule n%d money = $1; ", "table n%d count money { else $1 } "}
	for i := range 4 {
		text := ""
		for n := range api.MaxNames {
			text += fmt.Sprintf(forms[(n*i)%3], n)
		}
		good(t, text)
		for _, form := range forms {
			bad(t, text+"~"+fmt.Sprintf(form, 64))
			bad(t, text+"~"+fmt.Sprintf(form, 64)+fmt.Sprintf(form, 65))
			bad(t, text+"~"+fmt.Sprintf(form, 63))
			bad(t, text+"~"+fmt.Sprintf(form, 64)+fmt.Sprintf(form, 63))
		}
		bad(t, "input n0 bool; ~"+text+"input n64 bool;")
	}
}

func TestTables(t *testing.T) {
	lits := map[string]string{"bool": "true", "count": "1", "money": "$1", "rate": "1%", "date": "2024-01-01"}
	kinds := []string{"bool", "count", "money", "rate", "date", "moneys"}
	for _, key := range kinds {
		for _, val := range kinds {
			fits := (key == "count" || key == "money" || key == "date") && val != "moneys"
			for k, lit := range lits {
				for v, other := range lits {
					head := "input a bool; ~table t " + key + " " + val + " { "
					switch {
					case !fits:
						bad(t, head+lit+": "+other+", else "+other+" }")
						bad(t, head+"else "+other+" }")
					case k != key || v != val:
						bad(t, strings.Replace(head, "~", "", 1)+"~"+lit+": "+other+", else "+lits[val]+" }")
					default:
						good(t, strings.Replace(head, "~", "", 1)+lit+": "+other+", else "+other+" }")
						good(t, strings.Replace(head, "~", "", 1)+"else "+other+" }")
					}
					if fits && v != val {
						bad(t, strings.Replace(head, "~", "", 1)+"~else "+other+" }")
						bad(t, strings.Replace(head, "~", "", 1)+lits[key]+": "+lits[val]+", ~else "+other+" }")
					}
				}
			}
		}
	}
}

func TestRows(t *testing.T) {
	good(t, "table t count count { 0: 5, 1: 5, 2: 4, 10: 0, 4503599627370496: 1, else 0 }")
	good(t, "table t money bool { $0: true, $0.01: true, $1: false, else true }")
	good(t, "table t date rate { 1900-01-01: 0%, 1900-01-02: 1%, 2199-12-31: 2%, else 0% }")
	bad(t, "table t count count { 1: 5, ~1: 5, else 0 }")
	bad(t, "table t count count { 0: 5, ~0: 5, else 0 }")
	bad(t, "table t count count { 2: 5, ~1: 5, 0: 5, else 0 }")
	bad(t, "table t count count { 1: 5, 3: 5, ~2: 5, else 0 }")
	bad(t, "table t count count { 1: 5, 3: 5, ~3: 5, 4: 5, else 0 }")
	bad(t, "table t money count { $2: 5, ~$1.99: 5, else 0 }")
	bad(t, "table t date count { 2024-01-02: 5, ~2024-01-01: 5, else 0 }")
	bad(t, "table t count count { 1: 5, ~$2: 5, else 0 }")
	bad(t, "table t count count { 1: 5, 2: 5, ~3: $5, else 0 }")
	bad(t, "table t count count { ~1: $5, 2: 5, else 0 }")
	// Row by row.
	bad(t, "table t count count { ~1: $5, 1: 5, else 0 }")
	bad(t, "table t count count { 2: 5, ~1: 5, 3: $5, else 0 }")
	bad(t, "table t count count { 2: 5, ~$3: 5, else $0 }")
}

// TestOrder checks that declarations are asked ahead of tables, these ahead of rules, each in the text's order.
func TestOrder(t *testing.T) {
	bad(t, "rule r bool = 1; table t rate count { else 1 } ~rule r bool = 1;")
	bad(t, "table t rate count { else 1 } input a bool; ~input a bool;")
	bad(t, "rule r bool = 1; ~table t rate count { else 1 }")
	bad(t, "rule r bool = 1; table t count count { ~else $1 }")
	bad(t, "rule r moneys = 1 + $1; table t count count { ~else $1 }")
	bad(t, "table t count count { ~else $1 } table u rate count { else 1 }")
	bad(t, "table t count count { ~else $1 } table u count count { else $1 }")
	bad(t, "~table t rate count { else $1 } table u count count { else $1 }")
	bad(t, "~rule r count = true; rule s count = $1 + 1;")
	bad(t, "rule r count = $1 ~+ 1; rule s moneys = 1;")
	bad(t, "rule r count = 1; rule s count = ~not 1; rule u count = 1;")
	bad(t, "rule a money = 2 ~+ $1; table t count count { else 1 } rule b money = 5;")
}

func TestRules(t *testing.T) {
	good(t, "rule a bool = true; rule b count = 1; rule c money = $1; rule d rate = 1%; rule e date = 2024-01-01;")
	kinds := []string{"bool", "count", "money", "rate", "date"}
	for i, lit := range []string{"true", "1", "$1", "1%", "2024-01-01"} {
		for j, kind := range kinds {
			if i != j {
				bad(t, "~rule r "+kind+" = "+lit+";")
			}
		}
		bad(t, "~rule r moneys = "+lit+";")
	}
	bad(t, "input l moneys; ~rule r moneys = l;")
	bad(t, "~rule r moneys = x + y;")
	bad(t, "~rule r moneys = r;")
	bad(t, "input l moneys; ~rule r money = l;")
	// A rule may name itself, or one behind it: of rings order tells.
	good(t, "rule a money = a;")
	good(t, "rule a money = b; rule b money = a;")
	bad(t, "~rule a money = b; rule b count = 1;")
}

func TestNames(t *testing.T) {
	good(t, "rule r money = a; input a money;")
	bad(t, "rule r money = ~a;")
	bad(t, "rule r money = ~t; table t count money { else $1 }")
	bad(t, "rule r money = at(t, ~t); table t count money { else $1 }")
	bad(t, "input a money; rule r money = ~at(a, 1);")
	bad(t, "rule r money = ~at(r, 1);")
	bad(t, "rule r money = ~at(a, 1);")
	bad(t, "rule r money = at(a, $1 ~+ 1);")
	bad(t, "rule r money = at(a, ~b);")
	bad(t, "rule r money = ~a + b;")
	bad(t, "rule r money = min($1, ~b);")
	bad(t, "rule r money = if ~a then b else c;")
	bad(t, "rule r money = if true then ~b else c;")
	bad(t, "rule r money = if 1 then $1 else ~c;")
	bad(t, "rule r money = ($1 ~+ 1) + (2 + $1);")
	bad(t, "rule r money = ($1 + $1) + (2 ~+ $1);")
	bad(t, "rule r money = 1 + (2 ~+ $1);")
}

func TestSums(t *testing.T) {
	const in = "input l moneys; input a money; table t money count { else 1 } "
	good(t, in+"rule r money = sum(x in l: x);")
	good(t, in+"rule r count = sum(x in l: 1);")
	good(t, in+"rule r count = sum(x in l: at(t, x));")
	good(t, in+"rule r money = sum(x in l: sum(y in l: x + y));")
	good(t, in+"rule r money = sum(x in l: x) + sum(x in l: x * 2);")
	good(t, in+"rule r money = sum(x in l: a + r);")
	for _, s := range []string{
		"rule r money = ~sum(x in $1: x);",
		"rule r money = ~sum(x in a: x);",
		"rule r money = sum(x in ~x: x);",
		"rule r money = sum(x in l: x) + ~x;",
		"rule r money = sum(x in l: sum(y in ~y: x));",
		"rule r money = sum(x in l: ~sum(y in x: x));",
		"rule r bool = ~sum(x in l: true);",
		"rule r rate = ~sum(x in l: 1%);",
		"rule r date = ~sum(x in l: 2024-01-01);",
		"rule r money = ~sum(x in l: l);",
		"~rule r count = sum(x in l: x);",
		"~rule r money = sum(x in l: 1);",
		"rule r money = ~sum(a in l: a);",
		"rule r money = ~sum(l in l: l);",
		"rule r money = ~sum(r in l: r);",
		"rule r money = ~sum(t in l: t);",
		"rule r money = ~sum(s in l: s); rule s count = 1;",
		"rule r money = sum(x in l: ~sum(x in l: x));",
		"rule r money = sum(x in l: sum(y in l: ~sum(x in l: x)));",
		"rule r money = sum(x in l: sum(y in l: y) + ~sum(x in l: x));",
		// Behind both kids.
		"rule r money = sum(a in $1: a ~+ 1);",
		"rule r money = sum(a in ~z: a);",
		"rule r money = sum(x in $1: ~z);",
		"rule r money = sum(t in l: t ~+ 1);",
		"rule r money = sum(x in l: sum(x in l: x ~+ 1));",
		// Within its sum a name is a money, whatever it is declared as.
		"rule r count = ~sum(s in l: s + $1); rule s count = 1;",
		"rule r count = sum(s in l: s ~+ 1); rule s count = 1;",
	} {
		bad(t, in+s)
	}
}

func TestTold(t *testing.T) {
	n := parsed(t, "rule r bool = s; input a money; table t date rate { else 1% } input l moneys; rule s date = 1; input b bool;")
	if l := Kinds(n); !reflect.DeepEqual(l, []api.Kind{api.Bool, api.Money, api.Rate, api.List, api.Date, api.Bool}) {
		t.Errorf("P11.2: Kinds: %v", l)
	}
	if l := Inputs(n); !reflect.DeepEqual(l, []Field{{"a", api.Money}, {"l", api.List}, {"b", api.Bool}}) {
		t.Errorf("P11.2: Inputs: %v", l)
	}
	if l := Rules(n); !reflect.DeepEqual(l, []Field{{"r", api.Bool}, {"s", api.Date}}) {
		t.Errorf("P11.2: Rules: %v", l)
	}
	for _, none := range []syn.Node{{}, parsed(t, "")} {
		if len(Kinds(none))+len(Inputs(none))+len(Rules(none)) != 0 {
			t.Errorf("P11.2: of no declarations: %v, %v, %v", Kinds(none), Inputs(none), Rules(none))
		}
	}
}

func TestOf(t *testing.T) {
	n := parsed(t, "input a money; input l moneys; table t count rate { else 1% } rule r bool = true; input c count;")
	with := []Field{{"x", api.Count}, {"a", api.Rate}, {"k", api.List}, {"y", api.Date}, {"y", api.Bool}, {"t", api.Count}, {"o", api.None}}
	for text, want := range map[string][2]api.Kind{
		"1": {api.Count, api.Count}, "$1": {api.Money, api.Money}, "1%": {api.Rate, api.Rate},
		"2024-01-01": {api.Date, api.Date}, "false": {api.Bool, api.Bool},
		"l": {api.List, api.List}, "len(l)": {api.Count, api.Count}, "c": {api.Count, api.Count}, "r": {api.Bool, api.Bool},
		// A name beside is looked for ahead of a declaration's.
		"a": {api.Money, api.Rate}, "t": {api.None, api.Count}, "at(t, 1)": {api.Rate, api.Rate}, "at(t, t)": {api.None, api.Rate},
		"a * c": {api.Money, api.Rate}, "a + $1": {api.Money, api.None},
		"x": {api.None, api.Count}, "x + c": {api.None, api.Count}, "k": {api.None, api.List}, "len(k)": {api.None, api.Count},
		"y": {api.None, api.Bool}, "o": {api.None, api.None}, "z": {api.None, api.None},
		"if r then o else o": {api.None, api.None}, "o == o": {api.None, api.None},
		"sum(z in l: z)": {api.Money, api.Money}, "sum(z in k: x)": {api.None, api.Count},
		"sum(x in l: x)": {api.Money, api.None}, "sum(y in l: y)": {api.Money, api.None}, "sum(o in l: o)": {api.Money, api.None},
		"sum(a in l: a)": {api.None, api.None}, "sum(r in l: $1)": {api.None, api.None}, "sum(q in l: q)": {api.Money, api.Money},
		"sum(z in l: sum(z in l: z))": {api.None, api.None}, "1 + $1": {api.None, api.None},
	} {
		e := expression(t, text)
		if k := Of(n, e); k != want[0] {
			t.Errorf("P11.2: Of(%s): %d, want %d", text, k, want[0])
		}
		if k := Of(n, e, with...); k != want[1] {
			t.Errorf("P11.2: Of(%s) with names beside: %d, want %d", text, k, want[1])
		}
	}
	// What is wrong elsewhere in the statute is no fault of the expression.
	faulty := parsed(t, "input a money; rule r count = $1 + 1; table t rate moneys { else 1 }")
	if k := Of(faulty, expression(t, "a + $1")); k != api.Money {
		t.Errorf("P11.2: Of in a statute with faults: %d", k)
	}
	if k := Of(syn.Node{}, expression(t, "1 + 2")); k != api.Count {
		t.Errorf("P11.2: Of in nothing: %d", k)
	}
}

// TestOneName checks P11.2 where a table and an input or rule have one name: Check tells it, Of is asked of an expression alone.
func TestOneName(t *testing.T) {
	table, input, rule := "table x count rate { else 1% } ", "input x count; ", "rule x count = 1; "
	for _, decls := range []string{
		table + input, input + table, table + rule, rule + table,
		"table x date rate { else 1% } " + input, "table x count moneys { else 1% } " + input, // a faulty table
		table + input + "rule x money = $1; ", rule + "input x date; " + table, // the first that is a value
		input + table + "table x date money { else $1 } ", table + "table x count date { else 2024-01-01 } " + rule, // the first table
	} {
		n := parsed(t, "input l moneys; "+decls)
		row := api.Rate
		switch {
		case strings.Contains(decls, "table x date rate"):
			row = api.None
		case strings.Contains(decls, "moneys {"):
			row = api.List
		}
		for text, want := range map[string]api.Kind{
			"x": api.Count, "x + 1": api.Count, "at(x, 1)": row, "at(x, x)": row, "x + $1": api.None, "at(x, $1)": api.None,
			"sum(x in l: $1)": api.None, "sum(y in l: y)": api.Money, "sum(y in l: x)": api.Count,
		} {
			if k := Of(n, expression(t, text)); k != want {
				t.Errorf("P11.2: Of(%s) in %q: %d, want %d", text, decls, k, want)
			}
		}
		if at, e := Check(n); e != api.ETYPE || at != n.Kids[2].At {
			t.Errorf("P11.1: Check of %q: %d, %v, want ETYPE at the second x", decls, at, e)
		}
	}
}

// TestMisshapen checks R1: trees that syn does not tell are refused, by Check and Of alike.
func TestMisshapen(t *testing.T) {
	lit := syn.Node{Op: "lit", Kind: api.Count, N: 1, At: 7}
	row := func(kids ...syn.Node) syn.Node { return syn.Node{Op: "row", At: 7, Kids: kids} }
	table := func(rows ...syn.Node) syn.Node {
		return syn.Node{Op: "table", Name: "t", Kind: api.Count, N: int64(api.Count), At: 7, Kids: rows}
	}
	rule := func(kids ...syn.Node) syn.Node {
		return syn.Node{Op: "rule", Name: "r", Kind: api.Count, At: 7, Kids: kids}
	}
	for i, d := range []syn.Node{
		{At: 7}, {Op: "input", Name: "a", At: 7}, {Op: "input", Kind: 7, At: 7}, {Op: "input", Kind: -1, At: 7},
		{Op: "input", Name: "a", Kind: api.Count, At: 7, Kids: []syn.Node{lit}},
		{Op: "statute", Kind: api.Count, At: 7}, {Op: "lit", Kind: api.Count, At: 7},
		rule(), rule(lit, lit), table(), table(row()), table(row(lit, lit)), table(row(lit), row(lit)),
		table(row(lit, lit, lit), row(lit)), table(row(lit, rule(lit)), row(lit)), table(lit), {Op: "rule", Name: "r", At: 7, Kids: []syn.Node{lit}},
		table(syn.Node{Op: "table", At: 7, Kids: []syn.Node{lit}}),
		table(row(syn.Node{Op: "lit", Kind: api.Count, Kids: []syn.Node{lit}})),
		{Op: "table", Name: "t", Kind: api.Count, N: 1<<32 + int64(api.Count), At: 7, Kids: []syn.Node{row(lit)}},
	} {
		if at, e := Check(syn.Node{Op: "statute", Kids: []syn.Node{d}}); at != 7 || e != api.ETYPE {
			t.Errorf("R1: Check of misshapen declaration %d: %d, %v", i, at, e)
		}
	}
	if at, e := Check(syn.Node{Op: "rule", At: 5}); at != 5 || e != api.ETYPE {
		t.Errorf("R1: Check of no statute: %d, %v", at, e)
	}
	moneys := syn.Node{Op: "name", Name: "l"}
	ops := []string{"", "x", "statute", "input", "rule", "table", "row", "lit", "name", "if", "+", "-", "*", "/", "<", "<=", ">", ">=", "==", "!=", "and", "or", "neg", "not", "min", "max", "len", "at", "sum"}
	with := []Field{{"l", api.List}, {"", api.None}}
	for _, op := range ops {
		for _, kid := range []syn.Node{lit, moneys, {Op: "lit", Kind: api.Bool}} {
			for n := range 6 {
				e := syn.Node{Op: op, At: 7}
				for range n {
					e.Kids = append(e.Kids, kid)
				}
				shaped := strings.Contains("neg 1 not 1 len 1 at 1 if 3 + 2 - 2 * 2 / 2 < 2 <= 2 > 2 >= 2 == 2 != 2 and 2 or 2 min 2 max 2 sum 2 ", op+" "+fmt.Sprint(n)+" ")
				if k := Of(syn.Node{}, e, with...); k != api.None && !shaped {
					t.Errorf("R1: Of(%v): %d", e, k)
				}
			}
		}
	}
	for k := api.Kind(-1); k < 9; k++ {
		want := k
		if k < api.Bool || k > api.Date {
			want = api.None
		}
		if got := Of(syn.Node{}, syn.Node{Op: "lit", Kind: k}); got != want {
			t.Errorf("R1: Of a lit of kind %d: %d", k, got)
		}
	}
}

// TestNested checks that much that is nested is no matter.
func TestNested(t *testing.T) {
	e := syn.Node{Op: "lit", Kind: api.Count, N: 1}
	list := syn.Node{Op: "name", Name: "l"}
	for i := range 60000 {
		switch i % 3 {
		case 0:
			e = syn.Node{Op: "neg", Kids: []syn.Node{e}}
		case 1:
			e = syn.Node{Op: "+", Kids: []syn.Node{e, {Op: "lit", Kind: api.Count}}}
		case 2:
			e = syn.Node{Op: "sum", Name: "s" + fmt.Sprint(i), Kids: []syn.Node{list, e}}
		}
	}
	if k := Of(syn.Node{}, e, Field{"l", api.List}); k != api.Count {
		t.Errorf("R1: Of much: %d", k)
	}
}

// TestMemory checks R4: what is answered is its own, and nothing that is handed in is changed.
func TestMemory(t *testing.T) {
	const text = "input a money; input b count; input l moneys; table t count money { 1: $1, else $2 } rule r money = sum(x in l: x + at(t, b)); rule s bool = true; rule u bool = s;"
	n := parsed(t, text)
	kinds, inputs, rules := Kinds(n), Inputs(n), Rules(n)
	for i, k := range kinds[len(kinds):cap(kinds)] {
		if k != api.None {
			t.Errorf("R4: spare room of Kinds, place %d: %v", i, k)
		}
	}
	for _, l := range [][]Field{inputs, rules} {
		for i, f := range l[len(l):cap(l)] {
			if f != (Field{}) {
				t.Errorf("R4: spare room, place %d: %v", i, f)
			}
		}
	}
	for i := range kinds {
		kinds[i] = api.None
	}
	inputs[0], rules[0] = Field{"spoilt", api.None}, Field{"spoilt", api.None}
	with := []Field{{"x", api.Count}, {"y", api.Money}, {"z", api.Money}}
	Of(n, n.Kids[4].Kids[0], with[:2]...)
	if at, e := Check(n); at != 0 || e != api.OK {
		t.Errorf("R4: Check behind all that: %d, %v", at, e)
	}
	if !reflect.DeepEqual(n, parsed(t, text)) {
		t.Errorf("R4: the tree was changed: %v", n)
	}
	if !reflect.DeepEqual(with, []Field{{"x", api.Count}, {"y", api.Money}, {"z", api.Money}}) {
		t.Errorf("R4: the names beside were changed: %v", with)
	}
}
