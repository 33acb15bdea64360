package emit

import (
	"fmt"
	"math/rand"
	"reflect"
	"slices"
	"strings"
	"testing"

	"publican/api"
	"publican/code"
	"publican/fold"
	"publican/limit"
	"publican/order"
	"publican/verify"
)

// row tells so many constants, from one on and so far from one another.
func row(kind api.Kind, from, step int64, many int) []constant {
	var l []constant
	for i := range int64(many) {
		l = append(l, constant{kind, from + i*step})
	}
	return l
}

// usesOf has each of these constants used once.
func usesOf(l ...constant) map[constant]use {
	uses := map[constant]use{}
	for _, v := range l {
		uses[v] = use{times: 1}
	}
	return uses
}

// made tells what a recipe makes, of parts that are in the list themselves.
func made(t *testing.T, p plan, r recipe) constant {
	t.Helper()
	for _, part := range r.parts {
		if _, isGone := p.recipes[part]; isGone || !limit.Within(part.kind, part.n) {
			t.Fatalf("%v: a part is made itself, or may not be", r)
		}
	}
	if r.name == "at" && len(r.parts) == 1 && r.parts[0].kind == api.Count {
		table := p.tables[r.operand]
		at, _ := slices.BinarySearch(table.Keys, r.parts[0].n)
		return constant{table.Val, table.Vals[at]}
	}
	if len(r.parts) != 2 || r.name == "add" && r.parts[0].n < 0 || r.name == "sub" && r.parts[0].n > 0 || r.parts[1].n <= 0 {
		t.Fatalf("%v: of none that go one way", r)
	}
	first, second, kind := r.parts[0], r.parts[1], api.Kind(r.operand)
	if first.kind != kind || second.kind != kind && (kind != api.Date || second.kind != api.Count) || kind == api.Bool {
		t.Fatalf("%v: kinds", r)
	}
	switch r.name {
	case "add":
		return constant{kind, first.n + second.n}
	case "sub":
		return constant{kind, first.n - second.n}
	}
	t.Fatalf("%v: neither add nor sub", r)
	return constant{}
}

// planned checks a plan, and tells how many constants are in the list, and how many instructions the recipes take more.
func planned(t *testing.T, uses map[constant]use, tables int) (listed, more int) {
	t.Helper()
	p := newPlan(uses, tables)
	if len(p.tables) > tables {
		t.Fatalf("%d tables, of %d", len(p.tables), tables)
	}
	for _, table := range p.tables {
		if table.Key != api.Count || len(table.Vals) > maxRows || len(table.Keys) != len(table.Vals)-1 || !slices.IsSorted(table.Keys) {
			t.Fatalf("a table %v", table)
		}
	}
	inList := map[constant]bool{}
	for v, u := range uses {
		r, isMade := p.recipes[v]
		if !isMade {
			inList[v] = true
			continue
		}
		if got := made(t, p, r); got != v || u.high > 0 && r.name != "at" {
			t.Fatalf("%v of %v is %v", r, v, got)
		}
		for _, part := range r.parts {
			inList[part] = true
		}
		more += len(r.parts) * u.times // const and at are one more than const, two of them and an operator two
	}
	for v := range p.recipes {
		if uses[v].times == 0 {
			t.Fatalf("%v is made for nobody", v)
		}
	}
	if q := newPlan(uses, tables); !reflect.DeepEqual(p, q) {
		t.Fatalf("R5: two plans")
	}
	return len(inList), more
}

// TestPlan checks that constants for which the list has no room are made, in few instructions more.
func TestPlan(t *testing.T) {
	for _, c := range []struct {
		what   string
		l      []constant
		tables int
		more   int
	}{
		{"one more", row(api.Count, 0, 1, 1025), 1, 1},
		{"one more, no table", row(api.Count, 0, 1, 1025), 0, 2},
		{"a table's", row(api.Count, 0, 1, 1056), 1, 32},
		{"a table's, and one more", row(api.Count, 0, 1, 1057), 1, 34},
		{"two tables'", row(api.Count, 0, 1, 1057), 2, 33},
		{"no table", row(api.Count, 0, 1, 1057), 0, 2 * 33},
		{"as many as there may be", row(api.Count, 1, 1, 2046), 0, 2 * 1022},
		{"great ones", row(api.Count, api.MaxMoney-3000, 1, 1100), 0, 2 * 77},
		{"the step is there", append(row(api.Count, 1000000, 7, 1099), constant{api.Count, 7}), 0, 2 * 76},
		{"moneys", row(api.Money, 1000, 100, 1100), 0, 2 * 77},
		{"rates below 0", row(api.Rate, -100000000, 50000, 1100), 0, 2 * 77},
		{"dates", row(api.Date, 20000, 3, 1100), 0, 2 * 77},
		{"dates, and a count", append(row(api.Date, 20000, 3, 1100), constant{api.Count, 3}), 0, 2 * 77},
		{"around 0", row(api.Count, -600, 1, 1201), 0, 2 * 177},
		{"dates, a table with a count for a key", append(row(api.Date, 0, 1, 1024), constant{api.Count, 3}), 1, 1},
		{"moneys, a table without keys", row(api.Money, 1, 1, 1100), 1, 2 * 76},
		{"moneys, two tables", row(api.Money, 1, 1, 1056), 2, 32 + 32},
		{"moneys, a table with few keys", append(row(api.Money, 1, 1, 1047), row(api.Count, 10, 1, 3)...), 1, 3 + 2*23},
		{"bools and counts", append(row(api.Bool, 0, 1, 2), row(api.Count, 1, 1, 1030)...), 0, 2 * 8},
	} {
		if listed, more := planned(t, usesOf(c.l...), c.tables); listed != maxConsts || more > c.more {
			t.Errorf("P16.1: %s: %d in the list, %d instructions more, want %d", c.what, listed, more, c.more)
		}
	}
}

// TestPlanChoice checks which constants are made: those that are used least, and high ones by no sum.
func TestPlanChoice(t *testing.T) {
	uses := usesOf(row(api.Count, 0, 1, 1100)...)
	for n := range int64(1100) {
		if n%3 > 0 {
			uses[constant{api.Count, n}] = use{times: 2 + int(n%5)}
		}
	}
	if listed, more := planned(t, uses, 1); listed != maxConsts || more != 32+2*44 {
		t.Errorf("P16.1: some used more often: %d in the list, %d instructions more", listed, more)
	}
	uses = usesOf(row(api.Count, 0, 1, 1200)...)
	for n := range int64(900) {
		uses[constant{api.Count, n}] = use{times: 1, high: 1}
	}
	if listed, more := planned(t, uses, 1); listed != maxConsts || more != 32+2*144 {
		t.Errorf("P16.1: high ones: %d in the list, %d instructions more", listed, more)
	}
	for v := range uses {
		uses[v] = use{times: 1, high: 1}
	}
	if listed, more := planned(t, uses, 1); listed != 1200-32 || more != 32 {
		t.Errorf("P16.1: all are high: %d in the list, %d instructions more", listed, more)
	}
	// Where there is no way, none is taken.
	uses = usesOf(row(api.Count, 1, 1, 1)...)
	for n := int64(1); len(uses) < 1025; n++ {
		uses[constant{api.Count, 1<<51 + n*n*n*n*n}] = use{times: 1}
	}
	if listed, more := planned(t, uses, 0); listed != 1025 || more > 0 {
		t.Errorf("P16.1: none beside another: %d in the list, %d instructions more", listed, more)
	}
}

// TestPlanMade checks plans of made constants, of all kinds.
func TestPlanMade(t *testing.T) {
	rng := rand.New(rand.NewSource(57))
	for turn := range 60 {
		uses := map[constant]use{}
		for range 1100 + rng.Intn(4000) {
			v := constant{api.Kind(1 + rng.Intn(1+turn%5)), rng.Int63n(int64(500 << (turn % 4 * 3)))}
			if v.kind != api.Date && rng.Intn(4) == 0 {
				v.n = -v.n
			}
			if limit.Within(v.kind, v.n) && len(uses) < 1025+turn*4 {
				uses[v] = use{times: 1 + rng.Intn(1+turn%3), high: rng.Intn(20) / 19}
			}
		}
		for tables := range 4 {
			if listed, _ := planned(t, uses, tables); listed > max(maxConsts, len(uses)) {
				t.Errorf("turn %d: %d of %d constants in the list", turn, listed, len(uses))
			} else if listed > maxConsts && turn%4 < 2 {
				t.Errorf("turn %d: small numbers: %d of %d constants in the list", turn, listed, len(uses))
			}
		}
	}
}

// added is a statute of so many tables, all used, and of a rule that adds these to what is in them.
func added(tables int, lits []string) string {
	var decls, sum strings.Builder
	for i := range tables {
		fmt.Fprintf(&decls, "table t%d count count{else %d}", i, i)
		fmt.Fprintf(&sum, "at(t%d,1)+", i)
	}
	return decls.String() + "rule z count=" + sum.String() + strings.Join(lits, "+") + ";"
}

// numbers tells so many.
func numbers(from, many int) []string {
	var l []string
	for i := range many {
		l = append(l, fmt.Sprint(from+i))
	}
	return l
}

// TestCrowded checks statutes with more constants than the list and the tables left over have room for.
func TestCrowded(t *testing.T) {
	for _, c := range []struct {
		tables int
		lits   []string
		more   int // instructions, for those that are made
	}{
		{63, numbers(0, 1024), 0},
		{63, numbers(0, 1025), 1},
		{63, numbers(0, 1056), 32},
		{63, numbers(0, 1057), 32 + 2},
		{63, numbers(0, 1300), 32 + 2*244},
		{60, numbers(0, 1300), 4*32 + 2*148},
		{1, numbers(0, 1600), 576},
	} {
		what := fmt.Sprint(c.tables, " tables, ", len(c.lits), " numbers")
		n, p := limited(t, what, added(c.tables, c.lits), api.OK)
		means(t, n, p)
		want := 3*c.tables - 1 + 2*len(c.lits) + len("moh") + c.more // at(t,1)+ is three; mark, out, halt
		if len(p.Code) != want || len(p.Consts) != maxConsts {
			t.Errorf("P16.1: %s: %d instructions, want %d; %d constants", what, len(p.Code), want, len(p.Consts))
		}
	}
	// One that is added and, turned, taken away is one, not two.
	both := "input x count;rule z count=x"
	for i := range 900 {
		both += fmt.Sprintf("+%d+-%d", i, i)
	}
	n, p := limited(t, "both ways", both+";", api.OK)
	means(t, n, p, value(api.Count, -7))
	if len(p.Code) != 2*1800+len("xmoh") || len(p.Consts) != 900 {
		t.Errorf("P16.1: both ways: %d instructions, %d constants", len(p.Code), len(p.Consts))
	}
	// What is made takes instructions, and of these there are too many at last.
	n, p = limited(t, "4096 instructions", added(1, numbers(0, 1705)), api.OK)
	means(t, n, p)
	if len(p.Code) != api.MaxCode {
		t.Errorf("P16.1: %d instructions", len(p.Code))
	}
	limited(t, "4099 instructions", added(1, numbers(0, 1706)), api.ELIMIT)
}

// TestCrowdedStack checks constants that are made where just one of them fits on the stack.
func TestCrowdedStack(t *testing.T) {
	const tables = 61
	decls, ats := "input x count;", ""
	for i := range tables {
		decls += fmt.Sprintf("table t%d count count{else %d}", i, i)
		ats += fmt.Sprintf("+at(t%d,x)", i)
	}
	for what, s := range map[string][2]string{
		"sums":                 {"+" + strings.Join(numbers(0, 1200), "+")},
		"differences":          {"-" + strings.Join(numbers(0, 1200), "-")},
		"below 0":              {"+-" + strings.Join(numbers(1, 1050), "+-")},
		"differences, below 0": {"- -" + strings.Join(numbers(1, 640), "- -"), "+" + strings.Join(numbers(700, 400), "+")},
		"products":             {"*" + strings.Join(numbers(1, 1056), "*")},
		"products, and sums":   {"*" + strings.Join(numbers(1, 1000), "*"), "+" + strings.Join(numbers(1001, 180), "+")},
	} {
		n, p := limited(t, what, decls+"rule z count="+strings.Repeat("x+x*(", 31)+"x"+s[0]+strings.Repeat(")", 31)+ats+s[1]+";", api.OK)
		if b, _, _ := verify.Check(p); b.Stack != api.MaxStack || len(p.Consts) != maxConsts {
			t.Errorf("P16.1: %s: %d on the stack, %d constants", what, b.Stack, len(p.Consts))
		}
		for _, x := range []int64{0, 1, -1, 2} {
			means(t, n, p, value(api.Count, x))
		}
	}
}

// TestRecipes checks that a constant that is made of two is as good as itself, and what it makes too great is so just where it is.
func TestRecipes(t *testing.T) {
	most := map[api.Kind]int64{api.Count: api.MaxMoney, api.Money: api.MaxMoney, api.Rate: 1000000000000, api.Date: api.MaxDay}
	for _, c := range []struct {
		kind  string
		exprs string
		v     constant
		r     recipe
	}{
		{"count", "x+9|x-9|x+-9|x- -9|9+x|9-x|x*9|x+9-9|if x<9 then 9 else x-9", constant{api.Count, 9},
			recipe{[]constant{{api.Count, 7}, {api.Count, 2}}, "add", int(api.Count)}},
		{"count", "-9+x|-9-x|x* -9|max(-9,x)-9", constant{api.Count, -9},
			recipe{[]constant{{api.Count, -7}, {api.Count, 2}}, "sub", int(api.Count)}},
		{"money", "x+$0.09|x-$0.09|x+-$0.09|$0.09-x|max(x,$0.09)", constant{api.Money, 9},
			recipe{[]constant{{api.Money, 4}, {api.Money, 5}}, "add", int(api.Money)}},
		{"rate", "x+0.0009%|x- -0.0009%|0.0009%-x", constant{api.Rate, 9},
			recipe{[]constant{{api.Rate, 1}, {api.Rate, 8}}, "add", int(api.Rate)}},
		{"rate", "-0.0009%-x|-0.0009%+x", constant{api.Rate, -9},
			recipe{[]constant{{api.Rate, -1}, {api.Rate, 8}}, "sub", int(api.Rate)}},
		{"date", "x+9|x-9|x+-9|x- -9", constant{api.Count, 9},
			recipe{[]constant{{api.Count, 7}, {api.Count, 2}}, "add", int(api.Count)}},
		{"date", "max(x,1900-01-10)|1900-01-10+(x-1900-01-10)|1900-01-10", constant{api.Date, 9},
			recipe{[]constant{{api.Date, 7}, {api.Count, 2}}, "add", int(api.Date)}},
	} {
		for _, expr := range strings.Split(c.exprs, "|") {
			n := parsed(t, fmt.Sprintf("input x %s; rule z %s = %s;", c.kind, c.kind, expr))
			rules, _ := order.Sort(n)
			m := newMaker(fold.Fold(n), plan{recipes: map[constant]recipe{c.v: c.r}})
			m.rules(rules)
			p := m.program()
			if b, f, ok := verify.Check(p); !ok || b.Stack != m.highest || b.Steps != m.now.steps {
				t.Fatalf("P16.1: %s of a %s: %v, %v, made %v, %d", expr, c.kind, b, f, m.now, m.highest)
			}
			for _, v := range p.Consts {
				if (constant{v.Kind, v.N}) == c.v {
					t.Errorf("P16.1: %s: %v stands in the list", expr, c.v)
				}
			}
			kind := p.Inputs[0]
			for by := range int64(25) {
				for _, x := range []int64{by - 12, most[kind] - by, -most[kind] + by} {
					if limit.Within(kind, x) {
						means(t, n, p, value(kind, x))
					}
				}
			}
		}
	}
}

// TestCrowdedKinds checks crowded statutes with constants of all kinds, in all places, beside as many tables as there may be.
func TestCrowdedKinds(t *testing.T) {
	const inputs, rules = 5, 5
	text := "input b bool;input x count;input m money;input r rate;input l moneys;"
	sums := [rules]string{"rule v bool=b", "rule w count=x", "rule y money=m", "rule z rate=r", "rule u money=sum(e in l:e"}
	for i := range api.MaxNames - inputs - rules {
		name := fmt.Sprintf("t%d", i)
		switch i % 3 {
		case 0:
			text += "table " + name + " count count{else 1}"
			sums[1] += "+at(" + name + ",x)"
		case 1:
			text += "table " + name + " money money{else $1}"
			sums[2] += "+at(" + name + ",m)"
		default:
			text += "table " + name + " count rate{else 1%}"
			sums[3] += "+at(" + name + ",x)"
		}
	}
	for i := range 310 {
		sums[1] += fmt.Sprint("-", i+3)
		sums[2] += fmt.Sprint("+$", i+2)
		sums[3] += fmt.Sprint("-", i+2, "%")
		if i < 96 {
			sums[4] += fmt.Sprint("+$.", 10+i)[:3] + fmt.Sprintf("%d.%02d", i/90, 10+i%90)
		}
		if i < 30 {
			sums[0] += fmt.Sprint(" or x>", 4000+i)
		}
	}
	sums[4] += ")"
	text += strings.ReplaceAll(strings.Join(sums[:], ";"), "+$.", "+$") + ";"
	n, p := limited(t, "all kinds", text, api.OK)
	if len(p.Consts) != maxConsts || len(p.Tables) < 54 {
		t.Errorf("P16.1: %d constants, %d tables", len(p.Consts), len(p.Tables))
	}
	for _, x := range []int64{0, 1, 4001, 5000, api.MaxMoney, -api.MaxMoney} {
		means(t, n, p, value(api.Bool, x&1), value(api.Count, x), value(api.Money, x), value(api.Rate, x%1000), list(x, 2))
	}
}

// TestCrowdedZero checks that nothing is told where there is no way.
func TestCrowdedZero(t *testing.T) {
	head := parsed(t, added(63, numbers(1, 1)))
	sum := head.Kids[63].Kids[0]
	lit := parsed(t, "rule a count = 1;").Kids[0].Kids[0]
	expr := sum
	for i := range int64(1100) {
		v := lit
		v.N = 1<<51 + i*i*i*i*i
		expr.Kids = slices.Clone(expr.Kids)
		next := sum
		next.Kids = append(slices.Clone(sum.Kids[:0]), expr, v)
		expr = next
	}
	n := head
	n.Kids = slices.Clone(head.Kids)
	n.Kids[63].Kids = append(slices.Clone(head.Kids[63].Kids[:0]), expr)
	if p, e := Emit(n); e != api.ELIMIT || !reflect.DeepEqual(p, code.Program{}) {
		t.Errorf("P16.1: a tree with numbers far from one another: %v, %d instructions", e, len(p.Code))
	}
}
