package emit

import (
	"fmt"
	"strings"
	"testing"

	"publican/api"
	"publican/code"
	"publican/mach"
	"publican/order"
	"publican/syn"
	"publican/verify"
)

// limited checks whether a statute's program is within the limits.
func limited(t *testing.T, what, text string, want api.Errno) (syn.Node, code.Program) {
	t.Helper()
	n := parsed(t, text)
	p, e := Emit(n)
	if e != want {
		steps, _ := order.Steps(n)
		deep, _ := order.Deep(n)
		t.Fatalf("P16.1: %s: %v, want %v (%d steps, %d deep)", what, e, want, steps, deep)
	}
	if q, at, f := Text(text); f != want || at != 0 || !code.Same(p, q) {
		t.Errorf("P16.1: Text of %s: %v at %d, want %v", what, f, at, want)
	}
	if e != api.OK {
		if len(p.Code)+len(p.Consts)+len(p.Names) > 0 {
			t.Errorf("R2: a program beside an error: %s", what)
		}
		return n, p
	}
	emitted(t, n)
	bounds(t, n)
	return n, p
}

// TestCodeLimit checks MaxCode: mark, so many times in and an add, less one, out, halt.
func TestCodeLimit(t *testing.T) {
	text := func(head string, terms int) string {
		return "input x count; rule a count = " + head + "x" + strings.Repeat("+x", terms-1) + ";"
	}
	n, p := limited(t, "4096 instructions", text("", 2047), api.OK)
	if len(p.Code) != 4096 {
		t.Errorf("%d instructions", len(p.Code))
	}
	means(t, n, p, value(api.Count, 3))
	limited(t, "4097 instructions", text("-", 2047), api.ELIMIT)
	limited(t, "4098 instructions", text("", 2048), api.ELIMIT)
	limited(t, "7000 instructions", text("", 3500), api.ELIMIT)
	// Few steps, of which an if counts one branch's alone, may still be more instructions than verify takes.
	branches := "input p bool; input x count; rule a count = "
	for i := range 20 {
		branches += "if p then x" + strings.Repeat("+x", 120+i) + " else "
	}
	limited(t, "20 branches", branches+"x;", api.ELIMIT)
}

// TestStackLimit checks MaxStack: two more, or one more, for each pair of brackets.
func TestStackLimit(t *testing.T) {
	text := func(twos, ones int) string {
		return "input x count; rule a count = " + strings.Repeat("x+x*(", twos) + strings.Repeat("x+(", ones) + "x" + strings.Repeat(")", twos+ones) + ";"
	}
	n, p := limited(t, "64 on the stack", text(31, 1), api.OK)
	if b, _, _ := verify.Check(p); b.Stack != 64 {
		t.Errorf("%d on the stack", b.Stack)
	}
	for x := range int64(3) {
		means(t, n, p, value(api.Count, x))
	}
	limited(t, "65 on the stack", text(32, 0), api.ELIMIT)
	limited(t, "79 on the stack", text(39, 0), api.ELIMIT)
	// A sum's brackets want no more than an operator's.
	n, p = limited(t, "sums", "input l moneys; rule a money = "+strings.Repeat("$1 + sum(x in l: x + ", 1)+"$2 * ("+strings.Repeat("1 + (", 30)+"1"+strings.Repeat(")", 32)+";", api.OK)
	means(t, n, p, list(1, 2, 3))
}

// named has so many rules that the last one names, ahead of which there may be others.
func named(rules int, first, last string) string {
	s := "input l moneys; " + first
	names := ""
	for i := range rules {
		s += fmt.Sprintf("rule r%d count = %d; ", i, i)
		names += fmt.Sprint(" + r", i)
	}
	return s + "rule q count = " + last + names + ";"
}

// TestSlotLimit checks the 64 slots: one for each rule that is named behind it, two for each sum that is around.
func TestSlotLimit(t *testing.T) {
	const one, two, three = "sum(x in l: 1)", "sum(x in l: sum(y in l: 1))", "sum(x in l: sum(y in l: sum(w in l: 1)))"
	for _, c := range []struct {
		rules int
		first string
		last  string
		want  api.Errno
		slots int
	}{
		{62, "", "1", api.OK, 62},
		{62, "", one, api.OK, 64},
		{61, "", one, api.OK, 63},
		{60, "", two, api.OK, 64},
		{61, "", two, api.ELIMIT, 0},
		{62, "", two, api.ELIMIT, 0},
		{58, "", three, api.OK, 64},
		{59, "", three, api.ELIMIT, 0},
		// What is done leaves its slots to others: of a sum's two the count.
		{61, "rule z count = " + one + "; ", "1", api.OK, 62},
		{61, "rule z count = " + two + "; ", "z", api.OK, 64},
		{61, "rule z count = " + three + "; ", "z", api.ELIMIT, 0},
		{60, "rule y count = " + one + "; rule z count = y; ", one + " + z", api.OK, 64},
	} {
		text := named(c.rules, c.first, c.last)
		n, p := limited(t, fmt.Sprint(c.rules, " rules, ", c.first, c.last), text, c.want)
		if len(p.Slots) != c.slots {
			t.Errorf("%d rules, %s%s: %d slots, want %d", c.rules, c.first, c.last, len(p.Slots), c.slots)
		}
		if c.want == api.OK {
			means(t, n, p, list(1, 2, 3))
			means(t, n, p, list())
		}
	}
	// Without a list there may be 63 that are named.
	n, p := limited(t, "63 named rules", strings.Replace(named(63, "", "0"), "input l moneys; ", "", 1), api.OK)
	means(t, n, p)
	// A row of rules that each name the one ahead: one's slot is free when it has been named.
	row := "rule r0 count = 1; "
	for i := range 63 {
		row += fmt.Sprintf("rule r%d count = r%d + 1; ", i+1, i)
	}
	n, p = limited(t, "a row", row, api.OK)
	if len(p.Slots) > 1 {
		t.Errorf("a row of rules: %d slots", len(p.Slots))
	}
	means(t, n, p)
}

// many has so many constants, each but once, added to the input; tables are used too.
func many(consts, tables int) string {
	s := "input x count; "
	sum := "rule a count = x"
	for i := range tables {
		s += fmt.Sprintf("table t%d count count{else %d}", i, i)
		sum += fmt.Sprintf("+at(t%d,x)", i)
	}
	for i := range consts {
		sum += fmt.Sprint("+", i)
	}
	return s + sum + ";"
}

// TestManyConstants checks that constants past verify's 1024 are had in other ways: they are no limit of P16.1's.
func TestManyConstants(t *testing.T) {
	for _, consts := range []int{1, 31, 32, 33, 990, 991, 992, 993, 994, 1023, 1024, 1025, 1026, 1055, 1056, 1057, 1200, 1300} {
		n, p := limited(t, fmt.Sprint(consts, " constants"), many(consts, 0), api.OK)
		for _, x := range []int64{0, -5, api.MaxMoney - 1000} {
			means(t, n, p, value(api.Count, x))
		}
	}
	// Of several kinds.
	text := "input x count; input m money; input r rate; input d date; "
	sums := [4]string{"rule a count = x", "rule b money = m", "rule c rate = r", "rule e bool = d > 1900-01-01"}
	for i := range 500 {
		sums[0] += fmt.Sprint("+", i)
		if i < 330 {
			sums[1] += fmt.Sprint("+$", i+1)
			sums[2] += fmt.Sprint("+", i+1, "%")
		}
		if i < 60 {
			sums[3] += fmt.Sprintf(" or d==20%d%d-0%d-1%d", i/6/10, i/6%10, i%9+1, i%10)
		}
	}
	n, p := limited(t, "constants of all kinds", text+strings.Join(sums[:], ";")+";", api.OK)
	if len(p.Consts) != 1024 || len(p.Tables) != 7 {
		t.Errorf("%d constants, %d tables", len(p.Consts), len(p.Tables))
	}
	for day := int64(36000); day < 40000; day += 111 {
		means(t, n, p, value(api.Count, 7), value(api.Money, -7), value(api.Rate, 5), value(api.Date, day))
	}
	// One that is there already takes no room.
	n, p = limited(t, "constants once more", strings.TrimSuffix(many(1000, 0), ";")+strings.Repeat("+999+993+7", 99)+";", api.OK)
	if len(p.Tables) != 0 || len(p.Consts) != 1000 {
		t.Errorf("%d constants, %d tables", len(p.Consts), len(p.Tables))
	}
	means(t, n, p, value(api.Count, 5))
	// In tests and sums, beside tables of the statute's own; and where no table is left for them.
	for consts, tables := range map[int]int{1024: 62, 1025: 63, 1056: 63, 1057: 64, 1088: 64, 1089: 64, 1200: 64} {
		n, p = limited(t, fmt.Sprint(consts, " constants beside tables"), many(consts, 62), api.OK)
		if len(p.Tables) != tables || len(p.Consts) != 1024 {
			t.Errorf("%d constants: %d tables, %d constants", consts, len(p.Tables), len(p.Consts))
		}
		means(t, n, p, value(api.Count, 3))
	}
	all := strings.TrimSuffix(many(1000, 0), ";") + "+sum(q in l: if x < 999 and x != 998 then 2000 else 2001); input l moneys; input b bool; rule z bool = b and x == 2003 or true;"
	n, p = limited(t, "constants in sums", all, api.OK)
	for _, x := range []int64{997, 998, 999, 2003} {
		means(t, n, p, value(api.Count, x), list(1, 2), value(api.Bool, x%2))
	}
}

// TestNever checks that what takes at most 400 steps and is at most 20 deep is never refused: at just that, in all shapes.
func TestNever(t *testing.T) {
	never := func(what, text string, steps int64, deep int) {
		t.Helper()
		n, p := limited(t, what, text, api.OK)
		s, _ := order.Steps(n)
		d, _ := order.Deep(n)
		if s != steps || d != deep {
			t.Errorf("%s: %d steps, %d deep", what, s, d)
		}
		if o, e := mach.Run(p, []api.Value{list(1, 2)}); e != api.OK || o.Err != api.OK {
			t.Errorf("P16.1: %s: %v, %v", what, o, e)
		}
	}
	const l = "input l moneys; "
	never("one long sum", l+"rule a count = -len(l)"+strings.Repeat(" + 1", 197)+" + len(l);", 2+3+2*197+3, 2)
	never("deep", l+"rule a count = "+strings.Repeat("len(l) + (", 19)+"len(l)"+strings.Repeat(")", 19)+";", 2+3*19+2, 20)
	never("deep sums", l+"rule a money = sum(x in l: "+strings.Repeat("x + (", 4)+"x"+strings.Repeat(")", 4)+") + sum(x in l: x);", 2+1+5+16*(4+9)+5+16*(4+1), 8)
	never("four sums", l+"rule a money = sum(x in l: x) + sum(y in l: y) + sum(x in l: x) + sum(y in l: y);", 2+3+4*85, 5)
	never("63 rules", named(61, "rule z count = sum(x in l: 1); ", "z"), 87+61*3+2+62+61, 4)
	steps, deep := int64(0), 0
	text := l
	for i := range 63 {
		text += fmt.Sprintf("rule r%d bool = %s; ", i, []string{"len(l) > 1", "1 < len(l) and true", "not (len(l) == 1)"}[i%3])
		steps += []int64{2 + 4, 2 + 6, 2 + 5}[i%3]
	}
	never("57 rules", text[:strings.Index(text, "rule r57")], steps-6-8-7-6-8-7, deep+2)
}

// longer makes an expression that takes so many steps more.
func longer(expr string, steps int64) string {
	if steps%2 == 1 {
		expr = "-(" + expr + ")"
	}
	return expr + strings.Repeat(" + 1", int(steps/2))
}

// TestStepsEdge checks verify's limit of steps just at it, with bodies that take more than order says.
func TestStepsEdge(t *testing.T) {
	cond := "b" + strings.Repeat(" and (b and b) == (b and b)", 23)
	const head = "input b bool; input l moneys; rule a count = "
	body := "(if " + cond + " then 1 else 2)"
	n := parsed(t, head+body+";")
	b, _, _ := verify.Check(emitted(t, n))
	const around = 3 // mark, out and halt
	for more, want := range map[int64]api.Errno{-1: api.OK, 0: api.OK, 1: api.ELIMIT, 2: api.ELIMIT} {
		steps := int64(1<<40) - around + more
		var rest [8]int64
		for i := range rest {
			// A sum takes 2, and 16 times its second kid and 2 more.
			rest[i] = (steps - 2) % 16
			steps = (steps-2)/16 - 2
		}
		expr := longer(body, steps-b.Steps+around)
		for i := len(rest) - 1; i >= 0; i-- {
			expr = longer(fmt.Sprintf("sum(y%d in l: %s)", i, expr), rest[i])
		}
		n, p := limited(t, fmt.Sprint(more, " steps past the limit"), head+expr+";", want)
		c, _, _ := verify.Check(p)
		if s, e := order.Steps(n); e != api.OK || want == api.OK && c.Steps != 1<<40+more {
			t.Errorf("%d: order's steps %d, %v; verify's %d", more, s, e, c.Steps)
		}
	}
}

// TestShort checks that no more instructions are needed than these: the fewer they are, the less is refused.
func TestShort(t *testing.T) {
	for expr, want := range map[string]string{
		"if x > y then 1 else 2":              "in in le unless const jump const",
		"if x < y then 1 else 2":              "in in lt unless const jump const",
		"if not (x > y) then 1 else 2":        "in in le unless const jump const",
		"if x < y and y < 9 then 1 else 2":    "in in lt unless in const lt unless const jump const",
		"if x >= y or y != 9 then 1 else 2":   "in in lt unless in const eq unless const jump const",
		"if x < y and y != 9 then 1 else 2":   "in in lt unless in const eq unless const jump const",
		"if (x > y) == (y > 9) then 1 else 2": "in in le in const le eq unless const jump const",
		"if (x > y) != (y > 9) then 1 else 2": "in in le in const le eq unless const jump const",
		"1 + 2 * 3":                           "const",
		"x + y":                               "in in add",
		"if not not true then x else y":       "in",
	} {
		p := emitted(t, parsed(t, "input x count; input y count; rule a count = "+expr+";"))
		var l []string
		for _, i := range p.Code {
			l = append(l, code.Name(i.Op))
		}
		if got := strings.Join(l, " "); got != "mark "+want+" out halt" {
			t.Errorf("%s: %s, want %s", expr, got, want)
		}
	}
}

// TestManySteps checks statutes that are near order's limit: a program, if verify takes it, or none (T1).
func TestManySteps(t *testing.T) {
	in := func(sums int, body string) string {
		s := "input l moneys; input b bool; rule a count = "
		for i := range sums {
			s += fmt.Sprint("sum(y", i, " in l: ")
		}
		return s + body + strings.Repeat(")", sums) + ";"
	}
	for body := 0; body <= 250; body += 2 {
		n, _ := limited(t, fmt.Sprint("a body of ", body), in(8, "1"+strings.Repeat("+1", body/2)), api.OK)
		if s, _ := order.Steps(n); body == 250 && s < 1<<40-1<<33 {
			t.Errorf("the greatest is not near the limit: %d", s)
		}
	}
	// What order refuses is refused, though its program would take no more than may be.
	refusedByOrder := 0
	for body := 252; body <= 300; body += 4 {
		n := parsed(t, in(8, "1"+strings.Repeat("+1", body/2)))
		if _, e := order.Steps(n); e != api.OK {
			refusedByOrder++
			limited(t, fmt.Sprint("a body of ", body), in(8, "1"+strings.Repeat("+1", body/2)), e)
		}
	}
	if refusedByOrder == 0 {
		t.Errorf("order refuses none")
	}
	limited(t, "nine sums", in(9, "1"), api.OK)
	limited(t, "ten sums", in(10, "1"), api.ELIMIT)
	for ands := 1; ands <= 61; ands++ {
		limited(t, fmt.Sprint(ands, " ands"), in(8, "if y7 > $1"+strings.Repeat(" and y7 > $1", ands/2)+strings.Repeat(" or y6 != y5", ands-ands/2)+" then 1 else 2"), api.OK)
	}
	refused := 0
	for turns := 1; turns <= 60; turns++ {
		one := "b"
		for range min(turns, 29) {
			one = "(" + one + ") == (b and b)"
		}
		for range max(0, turns-29) {
			one += " and (b and b) == (b and b)"
		}
		n := parsed(t, in(8, "if "+one+" then 1 else 2"))
		_, e := order.Steps(n)
		p, f := Emit(n)
		if _, _, ok := verify.Check(p); e != api.OK && f != e || ok != (f == api.OK) || f != api.OK && f != api.ELIMIT {
			t.Fatalf("T1: %d turns: %v, order says %v", turns, f, e)
		}
		if e == api.OK && f != api.OK {
			refused++
		}
	}
	if refused == 0 {
		t.Errorf("none of them has more steps than verify takes, though order takes it")
	}
}
