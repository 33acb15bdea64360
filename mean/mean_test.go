package mean

import (
	"fmt"
	"math"
	"reflect"
	"slices"
	"strings"
	"testing"

	"publican/api"
	"publican/cal"
	"publican/syn"
)

var kindNames = []string{"none", "bool", "count", "money", "rate", "date", "moneys"}

func parsed(t *testing.T, text string) syn.Node {
	t.Helper()
	n, at, e := syn.Parse(text)
	if e != api.OK {
		t.Fatalf("P10.1: Parse(%q): %v at %d", text, e, at)
	}
	return n
}

func value(k api.Kind, n int64) api.Value { return api.Value{Kind: k, N: n} }

func list(l ...int64) api.Value { return api.Value{Kind: api.List, L: l} }

// told tells what a statute comes to: its values with their kinds, or the error and the rule.
func told(n syn.Node, in ...api.Value) string {
	o, e := Run(n, in)
	if e != api.OK {
		if !reflect.DeepEqual(o, Out{}) {
			return fmt.Sprintf("R2: beside an error: %v", o)
		}
		return fmt.Sprint("refused: ", e)
	}
	if o.Err != api.OK {
		if len(o.Values) > 0 {
			return fmt.Sprintf("P13.1: values beside an error: %v", o)
		}
		return fmt.Sprint(o.Err, " at ", o.Rule)
	}
	var l []string
	for _, v := range o.Values {
		l = append(l, fmt.Sprint(kindNames[v.Kind], " ", v.N, strings.Repeat("!", len(v.L))))
	}
	return strings.Join(l, ", ") + o.Rule
}

func run(t *testing.T, text, want string, in ...api.Value) {
	t.Helper()
	if got := told(parsed(t, text), in...); got != want {
		t.Errorf("P13: Run(%q, %v): %s, want %s", text, in, got, want)
	}
}

// one checks a rule r of that kind.
func one(t *testing.T, kind, expr, want string, in ...api.Value) {
	t.Helper()
	const decls = "input l moneys; input k count; table t money count { $1: 10, $2: 20, $3: 30, else 40 } "
	if len(in) == 0 {
		in = []api.Value{list(300, 100, 200), value(api.Count, 2)}
	}
	if !strings.HasPrefix(want, "error") {
		want = kind + " " + want
	}
	run(t, decls+"rule r "+kind+" = "+expr+";", want, in...)
}

func TestExample(t *testing.T) {
	run(t, "rule t money = $10 * 7.5%;", "money 75")
}

// fitting checks Fits of one input of a kind.
func fitting(t *testing.T, k api.Kind, v api.Value, want bool) {
	t.Helper()
	n := parsed(t, "rule r count = 1; input i "+kindNames[k]+"; rule s count = 2;")
	if got := Fits(n, []api.Value{v}); got != want {
		t.Errorf("P13.1: Fits of %v where a %s is asked for: %v", v, kindNames[k], got)
	}
	told := told(n, v)
	if want && told != "count 1, count 2" || !want && told != "refused: error 1" {
		t.Errorf("P13.1: Run with %v where a %s is asked for: %s", v, kindNames[k], told)
	}
}

func TestFits(t *testing.T) {
	const trillion = 1000000000000
	for k, l := range map[api.Kind][]int64{
		api.Bool:  {0, 1},
		api.Count: {-api.MaxMoney, api.MaxMoney},
		api.Money: {-api.MaxMoney, api.MaxMoney},
		api.Rate:  {-trillion, trillion},
		api.Date:  {0, api.MaxDay},
	} {
		low, high := l[0], l[1]
		for _, n := range []int64{low, low + 1, high - 1, high} {
			fitting(t, k, value(k, n), true)
		}
		for _, n := range []int64{low - 1, high + 1, low - 1000, high + 1000, math.MinInt64, math.MaxInt64} {
			fitting(t, k, value(k, n), false)
		}
		for other := api.None - 2; other <= api.List+2; other++ {
			fitting(t, k, value(other, low), other == k)
		}
		fitting(t, k, api.Value{Kind: k, N: low, L: []int64{}}, true)
		fitting(t, k, api.Value{Kind: k, N: low, L: make([]int64, 0, 4)}, true)
		fitting(t, k, api.Value{Kind: k, N: low, L: []int64{0}}, false)
	}
	if day, ok := cal.Read("2199-12-31"); !ok || day != api.MaxDay {
		t.Errorf("P2.1: the last day: %d", day)
	}
}

func TestFitsLists(t *testing.T) {
	fitting(t, api.List, list(), true)
	fitting(t, api.List, api.Value{Kind: api.List, L: []int64{}}, true)
	fitting(t, api.List, list(-api.MaxMoney, 0, api.MaxMoney), true)
	fitting(t, api.List, list(make([]int64, api.MaxList)...), true)
	fitting(t, api.List, list(make([]int64, api.MaxList+1)...), false)
	fitting(t, api.List, list(make([]int64, 1000)...), false)
	for _, n := range []int64{-1, 1, math.MinInt64, math.MaxInt64} {
		fitting(t, api.List, api.Value{Kind: api.List, N: n}, false)
		fitting(t, api.List, api.Value{Kind: api.List, N: n, L: []int64{1}}, false)
	}
	for i := range api.MaxList {
		for _, n := range []int64{-api.MaxMoney - 1, api.MaxMoney + 1, math.MinInt64, math.MaxInt64} {
			l := make([]int64, api.MaxList)
			l[i] = n
			fitting(t, api.List, list(l...), false)
		}
	}
	for other := api.None; other < api.List; other++ {
		fitting(t, api.List, value(other, 0), false)
		fitting(t, other%api.Date+1, list(), false)
	}
}

// TestFitsMany checks how many values there are, and that each is held against its own input.
func TestFitsMany(t *testing.T) {
	n := parsed(t, "input a count; rule r date = c; input b money; table t count count { else 1 } input c date;")
	good := []api.Value{value(api.Count, 1), value(api.Money, 2), value(api.Date, 3)}
	check := func(in []api.Value, want bool) {
		t.Helper()
		if Fits(n, in) != want {
			t.Errorf("P13.1: Fits of %v: %v", in, !want)
		}
	}
	check(good, true)
	check(nil, false)
	check(good[:2], false)
	check(good[1:], false)
	check(append(slices.Clone(good), value(api.Count, 1)), false)
	check(append(slices.Clone(good), api.Value{}), false)
	for _, order := range [][]int{{0, 2, 1}, {1, 0, 2}, {1, 2, 0}, {2, 0, 1}, {2, 1, 0}, {0, 0, 0}} {
		check([]api.Value{good[order[0]], good[order[1]], good[order[2]]}, false)
	}
	for _, text := range []string{"", "rule a count = 1;", "table t count count { else 1 }"} {
		if n := parsed(t, text); !Fits(n, nil) || !Fits(n, []api.Value{}) || Fits(n, good[:1]) {
			t.Errorf("P13.1: Fits where %q has no input", text)
		}
	}
}

// TestFitsFaulty checks that Fits asks for the inputs alone: a tree's faults are no matter.
func TestFitsFaulty(t *testing.T) {
	in := []api.Value{value(api.Count, 1), value(api.Money, 2)}
	for _, text := range []string{
		"input a count; input a money;", "input a count; rule a money = a; input b money;",
		"input a count; rule r count = r; input b money;", "input a count; input b money; rule l moneys = nobody;",
	} {
		n := parsed(t, text)
		if !Fits(n, in) || Fits(n, in[:1]) || Fits(n, []api.Value{in[1], in[0]}) {
			t.Errorf("P13.1: Fits of %q", text)
		}
		if got := told(n, in...); got != "refused: error 8" {
			t.Errorf("P13.1: Run(%q): %s", text, got)
		}
	}
	for _, k := range []api.Kind{api.None, -1, 7, math.MaxInt} {
		n := syn.Node{Op: "statute", Kids: []syn.Node{{Op: "input", Name: "a", Kind: k}}}
		if Fits(n, []api.Value{{Kind: k}}) || Fits(n, []api.Value{{Kind: k, L: []int64{1}}}) {
			t.Errorf("P13.1: Fits of kind %d", k)
		}
	}
	if !Fits(syn.Node{}, nil) || Fits(syn.Node{}, in) {
		t.Errorf("P13.1: Fits of no statute")
	}
}

// sums nests as many sums over l.
func sums(many int) string {
	s := "input l moneys; rule r count = "
	for i := range many {
		s += fmt.Sprintf("sum(x%d in l: ", i)
	}
	return s + "1" + strings.Repeat(")", many) + ";"
}

func TestRefused(t *testing.T) {
	for _, text := range []string{
		"rule a money = 1;", "rule a count = nobody;", "rule a count = 1; rule a count = 1;",
		"rule a count = a;", "rule a count = b; rule b count = a;", "rule c count = 1; rule a count = if true then 1 else b; rule b count = -a;",
		"table t count count { 2: 1, 1: 2, else 3 } rule a count = 1;",
	} {
		run(t, text, "refused: error 8")
		run(t, text, "refused: error 8", value(api.Count, 1)) // ahead of what does not fit
	}
	for _, n := range []syn.Node{
		{}, {Op: "rule"}, {Op: "statute", Kids: []syn.Node{{}}},
		{Op: "statute", Kids: []syn.Node{{Op: "rule", Name: "a", Kind: api.Count}}},
		{Op: "statute", Kids: []syn.Node{{Op: "rule", Name: "a", Kind: api.Count, Kids: []syn.Node{{Op: "+"}}}}},
		{Op: "statute", Kids: []syn.Node{{Op: "rule", Name: "a", Kind: api.Count, Kids: []syn.Node{{Op: "at", Name: "t"}}}}},
	} {
		if got := told(n); got != "refused: error 8" {
			t.Errorf("P13.1: Run(%v): %s", n, got)
		}
	}
	// Order's other error: more steps than 2^40, whatever the list.
	run(t, sums(9), "count 1", list(5))
	run(t, sums(9), "count 0", list())
	run(t, sums(9), "count 512", list(5, 5))
	for many := 10; many < 40; many++ {
		run(t, sums(many), "refused: error 2", list())
		run(t, sums(many), "refused: error 2", list(make([]int64, api.MaxList)...))
		run(t, sums(many), "refused: error 2")
	}
}

func TestOrder(t *testing.T) {
	run(t, "", "")
	run(t, "input a count; table t count count { else 1 }", "", value(api.Count, 1))
	run(t, "rule a count = b + 1; rule b count = c * 2; rule c count = 5;", "count 11, count 10, count 5")
	run(t, "rule z count = 1; input i count; rule y money = $1 * x; table t count rate { else 5% } rule x count = i; rule w rate = at(t, z);",
		"count 1, money 700, count 7, rate 50000", value(api.Count, 7))
	run(t, "input b count; rule r count = a - b; input a count;", "count 4", value(api.Count, 3), value(api.Count, 7))
	// The first in order's order, not in the text's.
	run(t, "rule a count = 1 / 0;", "error 11 at a")
	run(t, "rule a count = 1; rule b count = 1 / 0; rule c date = 1900-01-01 - 1;", "error 11 at b")
	run(t, "rule c date = 1900-01-01 - 1; rule b count = 1 / 0; rule a count = 1;", "error 12 at c")
	run(t, "rule a count = b + 1 / 0; rule b count = 4503599627370496 * 2;", "error 10 at b")
	run(t, "rule a count = c + 1 / 0; rule b date = 1900-01-01 - 1; rule c count = 4503599627370496 * 2;", "error 12 at b")
	// One that is leant on, though what leans on it would not look at it.
	run(t, "rule a count = if true then 1 else b; rule b count = 1 / 0;", "error 11 at b")
}

func TestLits(t *testing.T) {
	for kind, l := range map[string][]string{
		"bool": {"false", "0", "true", "1"}, "count": {"0", "0", "4503599627370496", "4503599627370496"},
		"money": {"$7.05", "705", "$45035996273704.96", "4503599627370496"}, "rate": {"0.0001%", "1", "100000000%", "1000000000000"},
		"date": {"1900-01-01", "0", "2199-12-31", "109572"},
	} {
		one(t, kind, l[0], l[1])
		one(t, kind, l[2], l[3])
	}
}

func TestSumsAndDifferences(t *testing.T) {
	const most = "4503599627370496"
	for kind, unit := range map[string]string{"count": "N", "money": "$N.00", "rate": "N%"} {
		amount := func(s string) string { return strings.ReplaceAll(unit, "N", s) }
		scale := map[string]int64{"count": 1, "money": 100, "rate": 10000}[kind]
		one(t, kind, amount("5")+" + "+amount("7"), fmt.Sprint(12*scale))
		one(t, kind, amount("5")+" - "+amount("7"), fmt.Sprint(-2*scale))
		one(t, kind, "-"+amount("5")+" - "+amount("7"), fmt.Sprint(-12*scale))
		one(t, kind, "-"+amount("5"), fmt.Sprint(-5*scale))
		one(t, kind, "- -"+amount("5"), fmt.Sprint(5*scale))
	}
	one(t, "count", most+" + 0", most)
	one(t, "count", most+" - 1 + 1", most)
	one(t, "count", "-"+most, "-"+most)
	one(t, "count", most+" + 1", "error 10 at r")
	one(t, "count", "-"+most+" - 1", "error 10 at r")
	one(t, "count", "-"+most+" + "+most, "0")
	one(t, "count", most+" + 1 - 1", "error 10 at r")
	one(t, "money", "$45035996273704.95 + $0.01", most)
	one(t, "money", "$45035996273704.96 + $0.01", "error 10 at r")
	one(t, "money", "-$45035996273704.96 - $0.01", "error 10 at r")
	one(t, "rate", "99999999.9999% + 0.0001%", "1000000000000")
	one(t, "rate", "100000000% + 0.0001%", "error 10 at r")
	one(t, "rate", "-100000000% - 0.0001%", "error 10 at r")
	one(t, "rate", "-99999999.9999% - 0.0001%", "-1000000000000")
}

func TestDates(t *testing.T) {
	one(t, "date", "2023-12-31 + 1", "45290")
	one(t, "date", "2024-02-28 + 2", "45350")
	one(t, "date", "2024-01-01 - 1", "45289")
	one(t, "date", "2024-01-01 + -1", "45289")
	one(t, "date", "2024-01-01 - -1", "45291")
	one(t, "count", "2024-03-01 - 2024-02-01", "29")
	one(t, "count", "1900-01-01 - 2199-12-31", "-109572")
	one(t, "date", "1900-01-01 + 109572", "109572")
	one(t, "date", "2199-12-31 - 109572", "0")
	for _, expr := range []string{
		"2199-12-31 + 1", "1900-01-01 - 1", "1900-01-01 + -1", "2199-12-31 - -1", "1900-01-01 + 109573", "2199-12-31 - 109573",
		"2000-01-01 + 4503599627370496", "2000-01-01 - 4503599627370496", "2199-12-31 + 1 - 1",
	} {
		one(t, "date", expr, "error 12 at r")
	}
	one(t, "date", "2000-01-01 + 4503599627370496 * 2", "error 10 at r")
	one(t, "count", "(2199-12-31 + 1) - 2000-01-01", "error 12 at r")
}

func TestProducts(t *testing.T) {
	one(t, "count", "6 * 7", "42")
	one(t, "count", "-6 * 7", "-42")
	one(t, "count", "67108864 * 67108864", "4503599627370496")
	one(t, "count", "-67108864 * 67108864", "-4503599627370496")
	one(t, "count", "67108865 * 67108864", "error 10 at r")
	one(t, "count", "4503599627370496 * 4503599627370496", "error 10 at r")
	one(t, "count", "4503599627370496 * 0", "0")
	one(t, "money", "$0.07 * 3", "21")
	one(t, "money", "3 * $0.07", "21")
	one(t, "money", "$45035996273704.96 * 2", "error 10 at r")
	one(t, "rate", "3 * 0.5%", "15000")
	one(t, "rate", "0.5% * -3", "-15000")
	one(t, "rate", "100000000% * 2", "error 10 at r")
	one(t, "rate", "1000000 * 100%", "1000000000000")
	one(t, "rate", "1000001 * 100%", "error 10 at r")
	for expr, want := range map[string]string{
		"$10 * 7.5%": "75", "$0.01 * 50%": "0", "$0.01 * 100%": "1", "$0.01 * 99.9999%": "0", "$1 * 0.0001%": "0", "$10000 * 0.0001%": "1",
		"-$0.01 * 50%": "-1", "$0.01 * -50%": "-1", "-$0.01 * -50%": "0", "-$0.01 * 100%": "-1", "-$0.03 * 50%": "-2", "-$0.01 * 0.0001%": "-1",
		"$45035996273704.96 * 100%": "4503599627370496", "$45035996273704.96 * -100%": "-4503599627370496",
		"$45035996273704.96 * 100.0001%": "error 10 at r", "$45035996273704.96 * 100000000%": "error 10 at r",
		"-$45035996273704.96 * 100000000%": "error 10 at r", "$45035996273704.96 * 0%": "0", "$45035996.27 * 100000000%": "4503599627000000",
	} {
		a, b, _ := strings.Cut(expr, " * ")
		one(t, "money", expr, want)
		one(t, "money", b+" * "+a, want)
	}
}

func TestQuotients(t *testing.T) {
	for expr, want := range map[string]string{
		"7 / 2": "3", "-7 / 2": "-4", "7 / -2": "-4", "-7 / -2": "3", "6 / 2": "3", "-6 / 2": "-3", "6 / -2": "-3", "0 / 5": "0", "1 / 5": "0", "-1 / 5": "-1",
		"4503599627370496 / 1": "4503599627370496", "4503599627370496 / -1": "-4503599627370496", "1 / 4503599627370496": "0", "-1 / 4503599627370496": "-1",
		"1 / 0": "error 11 at r", "0 / 0": "error 11 at r", "-1 / 0": "error 11 at r", "1 / (k - 2)": "error 11 at r",
	} {
		one(t, "count", expr, want)
	}
	for expr, want := range map[string]string{
		"$0.07 / 2": "3", "-$0.07 / 2": "-4", "$0.07 / -2": "-4", "-$0.07 / -2": "3", "$45035996273704.96 / -1": "-4503599627370496",
		"$1 / 0": "error 11 at r", "$0 / 0": "error 11 at r",
	} {
		one(t, "money", expr, want)
	}
	for expr, want := range map[string]string{
		"$1 / $3": "333333", "-$1 / $3": "-333334", "$1 / -$3": "-333334", "-$1 / -$3": "333333", "$2 / $3": "666666", "$3 / $1": "3000000", "-$3 / $1": "-3000000",
		"$0 / $3": "0", "$0 / -$3": "0", "$10000 / $0.01": "1000000000000", "-$10000 / $0.01": "-1000000000000", "$10000 / -$0.01": "-1000000000000", "$10000.01 / $0.01": "error 10 at r",
		"-$10000.01 / $0.01": "error 10 at r", "$45035996273704.96 / $0.01": "error 10 at r", "$45035996273704.96 / -$0.01": "error 10 at r",
		"$45035996273704.96 / $45035996273704.96": "1000000", "-$45035996273704.96 / -$45035996273704.96": "1000000", "$0.01 / $45035996273704.96": "0",
		"-$0.01 / $45035996273704.96": "-1", "$0.01 / -$45035996273704.96": "-1", "$1 / $0": "error 11 at r", "$0 / $0": "error 11 at r", "-$1 / $0": "error 11 at r",
	} {
		one(t, "rate", expr, want)
	}
}

func TestRanks(t *testing.T) {
	for _, l := range [][]string{{"1", "2"}, {"-2", "-1"}, {"$0.99", "$1"}, {"1%", "1.0001%"}, {"1999-12-31", "2000-01-01"}} {
		// Of the lesser and the greater, the greater and the lesser, two alike.
		for op, want := range map[string]string{"<": "100", "<=": "101", ">": "010", ">=": "011", "==": "001", "!=": "110"} {
			for i, pair := range [][]string{{l[0], l[1]}, {l[1], l[0]}, {l[0], l[0]}} {
				one(t, "bool", pair[0]+" "+op+" "+pair[1], want[i:i+1])
			}
		}
	}
	for pair, same := range map[string]string{"false true": "0", "true false": "0", "false false": "1", "true true": "1"} {
		a, b, _ := strings.Cut(pair, " ")
		one(t, "bool", a+" == "+b, same)
		one(t, "bool", "not ("+a+" != "+b+")", same)
	}
	one(t, "count", "min(1, 2)", "1")
	one(t, "count", "min(2, 1)", "1")
	one(t, "count", "max(1, 2)", "2")
	one(t, "count", "max(2, 1)", "2")
	one(t, "count", "max(-2, -1)", "-1")
	one(t, "money", "min($2, -$1)", "-100")
	one(t, "rate", "max(5%, 4%)", "50000")
	one(t, "date", "min(1999-12-31, 2000-01-01)", "36523")
	one(t, "date", "max(1999-12-31, 2000-01-01)", "36524")
	one(t, "count", "min(1, 1 / 0)", "error 11 at r")
	one(t, "count", "max(1 / 0, 1)", "error 11 at r")
}

// TestChoices checks what is worked out of if, and, or: just what matters.
func TestChoices(t *testing.T) {
	one(t, "count", "if true then 1 else 2", "1")
	one(t, "count", "if false then 1 else 2", "2")
	one(t, "count", "if true then 1 else 1 / 0", "1")
	one(t, "count", "if false then 1 / 0 else 2", "2")
	one(t, "count", "if true then 1 / 0 else 2", "error 11 at r")
	one(t, "count", "if 1 / 0 == 1 then 4503599627370496 * 2 else 4503599627370496 * 2", "error 11 at r")
	one(t, "bool", "not true", "0")
	one(t, "bool", "not false", "1")
	for expr, want := range map[string]string{
		"false and false": "0", "false and true": "0", "true and false": "0", "true and true": "1",
		"false or false": "0", "false or true": "1", "true or false": "1", "true or true": "1",
		"false and BAD": "0", "true and BAD": "error 11 at r", "true or BAD": "1", "false or BAD": "error 11 at r",
		"BAD and false": "error 11 at r", "BAD or true": "error 11 at r", "true and (false and BAD)": "0", "false or true or BAD": "1",
		"not (true or BAD)": "0", "false and BAD or true": "1",
	} {
		one(t, "bool", strings.ReplaceAll(expr, "BAD", "1 / 0 == 1"), want)
	}
}

// TestFirstError checks that kids are worked out from the left, and the first error ends it.
func TestFirstError(t *testing.T) {
	zero, over, off := "1 / 0", "4503599627370496 * 2", "((1900-01-01 - 1) - 1900-01-01)"
	errors := map[string]string{zero: "error 11 at r", over: "error 10 at r", off: "error 12 at r"}
	for a, first := range errors {
		for b := range errors {
			for _, form := range []string{"(A) + (B)", "(A) - (B)", "(A) * (B)", "(A) / (B)", "min(A, B)", "max(A, B)", "1 + (A) + (B)", "-(A) * 0 + (B)",
				"if (A) < (B) then 1 else 2", "if (A) == (B) then 1 else 2", "if not ((A) > 0 and (B) > 0) then 1 else B", "at(t, $1 * (A)) + (B)"} {
				one(t, "count", strings.NewReplacer("A", a, "B", b).Replace(form), first)
			}
		}
	}
}

func TestLists(t *testing.T) {
	k := value(api.Count, 2)
	full := make([]int64, api.MaxList)
	one(t, "count", "len(l)", "0", list(), k)
	one(t, "count", "len(l)", "3", list(5, 6, 7), k)
	one(t, "count", "len(l)", "16", list(full...), k)
	one(t, "money", "sum(x in l: x)", "600")
	one(t, "money", "sum(x in l: x * k)", "1200")
	one(t, "money", "sum(x in l: $0.05)", "15")
	one(t, "count", "sum(x in l: 1)", "16", list(full...), k)
	one(t, "count", "sum(x in l: if x > $1 then 1 else 0)", "2")
	one(t, "money", "sum(x in l: sum(y in l: max(x, y)))", "2200")
	one(t, "money", "sum(x in l: sum(y in l: x) - sum(y in l: y))", "0")
	one(t, "money", "sum(x in l: x) + sum(x in l: x * 10)", "6600")
	one(t, "count", "sum(x in l: at(t, x) * len(l))", "180")
	run(t, "input l moneys; input m moneys; rule a money = sum(x in l: sum(y in m: x - y)); rule b money = sum(x in m: sum(y in l: x - y)) + a;",
		"money 78, money 0", list(10, 20), list(1, 2, 3))
}

// TestEmptyLists checks that a sum of nothing is 0 of the kind of its second kid.
func TestEmptyLists(t *testing.T) {
	in := []api.Value{list(), value(api.Count, 2)}
	one(t, "money", "sum(x in l: x)", "0", in...)
	one(t, "count", "sum(x in l: 1)", "0", in...)
	one(t, "money", "sum(x in l: x) + $1", "100", in...)
	one(t, "count", "sum(x in l: 1 / 0) + 1", "1", in...)
	one(t, "rate", "sum(x in l: x) / $1 + 5%", "50000", in...)
	one(t, "rate", "5% * sum(x in l: 1)", "0", in...)
	one(t, "money", "5% * sum(x in l: x * 5%)", "0", in...)
	one(t, "date", "2024-01-01 + sum(x in l: if x > $1 then 1 else 2)", "45290", in...)
	one(t, "bool", "sum(x in l: at(t, x)) == k - 2", "1", in...)
	one(t, "count", "sum(x in l: sum(y in l: k)) + 1", "1", in...)
	one(t, "money", "sum(x in l: sum(y in l: max(x, y))) + $1", "100", in...)
	one(t, "count", "5 / sum(x in l: 1)", "error 11 at r", in...)
	one(t, "rate", "$5 / sum(x in l: x)", "error 11 at r", in...)
	const two = "input l moneys; input m moneys; "
	run(t, two+"rule a money = sum(x in l: sum(y in m: y - x) + x);", "money 9", list(4, 5), list())
	run(t, two+"rule a count = sum(x in l: sum(y in m: len(l)) + 1);", "count 2", list(4, 5), list())
	run(t, two+"rule a count = 1 + sum(x in l: sum(y in m: len(l)) + 1);", "count 1", list(), list(4))
	run(t, two+"rule a money = sum(x in l: c * x); rule c count = b + sum(x in m: b); rule b count = 1 + sum(y in m: 1);", "money 9, count 1, count 1", list(4, 5), list())
}

// TestSumSteps checks that a sum is taken step by step, in the list's order.
func TestSumSteps(t *testing.T) {
	k := value(api.Count, 2)
	for _, c := range []struct {
		l    []int64
		want string
	}{
		{[]int64{api.MaxMoney}, "4503599627370496"},
		{[]int64{-api.MaxMoney}, "-4503599627370496"},
		{[]int64{api.MaxMoney, 0, 0}, "4503599627370496"},
		{[]int64{api.MaxMoney, 1}, "error 10 at r"},
		{[]int64{1, api.MaxMoney}, "error 10 at r"},
		{[]int64{api.MaxMoney, 1, -1}, "error 10 at r"},
		{[]int64{api.MaxMoney, -1, 1}, "4503599627370496"},
		{[]int64{-1, 1, api.MaxMoney}, "4503599627370496"},
		{[]int64{-api.MaxMoney, -1, 1}, "error 10 at r"},
		{[]int64{-api.MaxMoney, 1, -1}, "-4503599627370496"},
	} {
		one(t, "money", "sum(x in l: x)", c.want, list(c.l...), k)
	}
	// Of each money first the second kid, then the sum with it.
	const expr = "sum(x in l: if x == $0 then 1 / 0 else if x == $1 then 4503599627370496 else if x == $2 then (1900-01-01 - 1) - 1900-01-01 else 0)"
	one(t, "count", expr, "error 11 at r", list(300, 0, 200, 100, 100), k)
	one(t, "count", expr, "error 12 at r", list(100, 200, 0, 100), k)
	one(t, "count", expr, "error 10 at r", list(100, 100, 0, 200), k)
	one(t, "count", expr, "error 11 at r", list(100, 0, 100), k)
	one(t, "count", expr, "4503599627370496", list(100, 300, 300), k)
}

func TestAt(t *testing.T) {
	tables := parsed(t, `table t count count { 5: 1, 7: 2, 9: 3, else 4 } table e money rate { else 7% }
		table wild count count { 5: 1, 2: 2, 9: 3, 9: 5, else 4 } table below count count { 0: 1, else 2 }`).Kids
	for i, want := range []map[int64]int64{
		{math.MinInt64: 1, -1: 1, 0: 1, 4: 1, 5: 1, 6: 2, 7: 2, 8: 3, 9: 3, 10: 4, math.MaxInt64: 4},
		{math.MinInt64: 70000, 0: 70000, math.MaxInt64: 70000},
		{1: 1, 2: 1, 5: 1, 6: 3, 9: 3, 10: 4},
		{-1: 1, 0: 1, 1: 2},
	} {
		for key, v := range want {
			if got := At(tables[i], key); got != v {
				t.Errorf("P13.2: At(%s, %d): %d, want %d", syn.Show(tables[i]), key, got, v)
			}
		}
	}
	one(t, "count", "at(t, $0.99)", "10")
	one(t, "count", "at(t, $1)", "10")
	one(t, "count", "at(t, $1.01)", "20")
	one(t, "count", "at(t, $3)", "30")
	one(t, "count", "at(t, $3.01)", "40")
	one(t, "count", "at(t, -$45035996273704.96)", "10")
	for kind, l := range map[string][]string{
		"bool": {"true", "1"}, "count": {"7", "7"}, "money": {"$7", "700"}, "rate": {"7%", "70000"}, "date": {"1900-01-08", "7"},
	} {
		text := fmt.Sprintf("table t date %s { 2024-01-01: %s, else %s } rule r %s = at(t, 2023-01-01);", kind, l[0], l[0], kind)
		run(t, text, kind+" "+l[1])
	}
}

// TestAtMisshapen checks that a tree that is no table does At no harm.
func TestAtMisshapen(t *testing.T) {
	lit := func(n int64) syn.Node { return syn.Node{Op: "lit", Kind: api.Count, N: n} }
	row := func(l ...syn.Node) syn.Node { return syn.Node{Op: "row", Kids: l} }
	for i, c := range []struct {
		rows []syn.Node
		want int64
	}{
		{nil, 0},
		{[]syn.Node{{}}, 0},
		{[]syn.Node{row()}, 0},
		{[]syn.Node{row(), row(lit(9), lit(1)), row(lit(4))}, 1},
		{[]syn.Node{row(lit(9)), row(lit(3), lit(2)), row(lit(4))}, 4},
		{[]syn.Node{row(lit(3), lit(2)), row(lit(4), lit(5))}, 5},
		{[]syn.Node{row(lit(3), lit(2)), row()}, 0},
	} {
		if got := At(syn.Node{Op: "table", Kids: c.rows}, 5); got != c.want {
			t.Errorf("R1: At of number %d: %d, want %d", i, got, c.want)
		}
	}
}

// nested tells a statute whose expression is so deep, of the forms that are named.
func nested(deep int, ops ...string) syn.Node {
	e := syn.Node{Op: "lit", Kind: api.Count, N: 1}
	yes := syn.Node{Op: "lit", Kind: api.Bool, N: 1}
	for i := range deep {
		kids := []syn.Node{e}
		switch op := ops[i%len(ops)]; op {
		case "+", "max":
			kids = []syn.Node{{Op: "name", Name: "b"}, e}
		case "if":
			kids = []syn.Node{yes, e, {Op: "name", Name: "b"}}
		}
		e = syn.Node{Op: ops[i%len(ops)], Kids: kids}
	}
	return syn.Node{Op: "statute", Kids: []syn.Node{
		{Op: "rule", Name: "a", Kind: api.Count, Kids: []syn.Node{e}},
		{Op: "rule", Name: "b", Kind: api.Count, Kids: []syn.Node{{Op: "lit", Kind: api.Count, N: 2}}},
	}}
}

func TestNested(t *testing.T) {
	const much = 60000
	for want, ops := range map[string][]string{
		"count 1, count 2":      {"neg"},
		"count 120001, count 2": {"+"},
		"count 60001, count 2":  {"+", "if"},
		"count 2, count 2":      {"max", "if"},
	} {
		if got := told(nested(much, ops...)); got != want {
			t.Errorf("R1: Run of much, %v: %s, want %s", ops, got, want)
		}
	}
}

// TestMany checks as many names as may be, each leaning on the one behind it.
func TestMany(t *testing.T) {
	text, want := "", ""
	for i := range api.MaxNames - 1 {
		text += fmt.Sprintf("rule n%d count = n%d + 1; ", i, i+1)
		want += fmt.Sprintf("count %d, ", api.MaxNames-i)
	}
	run(t, text+"rule n63 count = 1;", want+"count 1")
	run(t, text+"input n63 count;", want[:len(want)-2], value(api.Count, 1))
	run(t, text+"rule n63 count = 1 / 0;", "error 11 at n63")
}

// TestMemory checks R4: nothing that is handed in is changed, kept or answered.
func TestMemory(t *testing.T) {
	const text = `input c count; input l moneys; table t money count { $1: 5, else 6 } rule a count = c; rule b count = if true then c else a;
		rule d money = sum(x in l: sum(y in l: x + y)); rule e count = sum(x in l: at(t, x)); rule f count = e;`
	n := parsed(t, text)
	spare := []int64{7, 8, 9}
	moneys := []int64{100, 200, 300, 400}
	in := []api.Value{{Kind: api.Count, N: 5, L: spare[:0]}, {Kind: api.List, L: moneys[:2]}}
	for range 2 {
		o, e := Run(n, in)
		if e != api.OK || told(n, in...) != "count 5, count 5, money 1200, count 11, count 11" {
			t.Fatalf("P13.2: %v, %v", o, e)
		}
		for i := range o.Values {
			if cap(o.Values[i].L) > 0 {
				t.Errorf("R4: value %d has a list: %v", i, o.Values[i].L[:cap(o.Values[i].L)])
			}
			o.Values[i] = api.Value{Kind: 9, N: 9}
		}
		for _, v := range o.Values[len(o.Values):cap(o.Values)] {
			if !reflect.DeepEqual(v, api.Value{}) {
				t.Errorf("R4: spare room: %v", v)
			}
		}
	}
	if !Fits(n, in) || !reflect.DeepEqual(n, parsed(t, text)) {
		t.Errorf("R4: the tree was changed: %v", n)
	}
	if !slices.Equal(spare, []int64{7, 8, 9}) || !slices.Equal(moneys, []int64{100, 200, 300, 400}) || len(in) != 2 || in[0].N != 5 || len(in[1].L) != 2 {
		t.Errorf("R4: what is put in was changed: %v, %v, %v", in, spare, moneys)
	}
}
