package mean

import (
	"fmt"
	"math"
	"math/big"
	"math/rand"
	"slices"
	"strings"
	"testing"

	"publican/api"
	"publican/order"
	"publican/syn"
	"publican/typ"
)

// forms has the operators' sentences of chapter 11: an operator, its kids' kinds, its own. A is any of count, money, rate; R any of these or a date.
const forms = `+ A A: A | + date count: date | - A A: A | - date date: count | - date count: date
* count count: count | * money count: money | * count money: money | * money rate: money | * rate money: money | * rate count: rate | * count rate: rate
/ count count: count | / money count: money | / money money: rate
< R R: bool | <= R R: bool | > R R: bool | >= R R: bool | == R R: bool | != R R: bool | == bool bool: bool | != bool bool: bool
and bool bool: bool | or bool bool: bool | not bool: bool | neg A: A | min R R: R | max R R: R | if bool R R: R | if bool bool bool: bool`

// form is one of them.
type form struct {
	op   string
	kids []string
	is   string
}

func readForms() []form {
	var l []form
	for _, s := range strings.Split(strings.ReplaceAll(forms, "\n", " | "), " | ") {
		for _, kind := range []string{"count", "money", "rate", "date"} {
			if !strings.Contains(s, "R") && !strings.Contains(s, "A") && kind != "date" || strings.Contains(s, "A") && kind == "date" {
				continue
			}
			head, is, _ := strings.Cut(strings.NewReplacer("A", kind, "R", kind).Replace(s), ": ")
			words := strings.Fields(head)
			l = append(l, form{words[0], words[1:], is})
		}
	}
	return l
}

// amount is a value of the model.
type amount struct {
	kind string
	n    *big.Int
	list []int64
}

func amountOf(v api.Value) amount { return amount{kindNames[v.Kind], big.NewInt(v.N), v.L} }

// floor is a by b, down.
func floor(a, b *big.Int) *big.Int {
	r := new(big.Rat).SetFrac(a, b) // its divisor is above 0
	return new(big.Int).Div(r.Num(), r.Denom())
}

func isIn(kind string, n *big.Int) bool {
	limits := map[string][]string{
		"bool": {"0", "1"}, "count": {"-4503599627370496", "4503599627370496"}, "money": {"-4503599627370496", "4503599627370496"},
		"rate": {"-1000000000000", "1000000000000"}, "date": {"0", "109572"},
	}[kind]
	low, _ := new(big.Int).SetString(limits[0], 10)
	high, _ := new(big.Int).SetString(limits[1], 10)
	return n.Cmp(low) >= 0 && n.Cmp(high) <= 0
}

// modelOp works one operator out by exact numbers.
func modelOp(all []form, op string, kids ...amount) (amount, api.Errno) {
	kinds := ""
	for _, k := range kids {
		kinds += " " + k.kind
	}
	i := slices.IndexFunc(all, func(f form) bool { return f.op == op && " "+strings.Join(f.kids, " ") == kinds })
	if i < 0 {
		return amount{}, api.ETYPE
	}
	a, b := kids[0].n, kids[len(kids)-1].n
	if op == "/" && b.Sign() == 0 {
		return amount{}, api.EZERO
	}
	is := all[i].is
	n := modelNumber(op, kinds, a, b)
	switch {
	case isIn(is, n):
		return amount{kind: is, n: n}, api.OK
	case is == "date":
		return amount{}, api.ERANGE
	}
	return amount{}, api.EOVER
}

func modelNumber(op, kinds string, a, b *big.Int) *big.Int {
	n, million := new(big.Int), big.NewInt(1000000)
	bit := func(holds bool) *big.Int {
		if holds {
			return big.NewInt(1)
		}
		return n
	}
	cmp := a.Cmp(b)
	switch op {
	case "+":
		return n.Add(a, b)
	case "-":
		return n.Sub(a, b)
	case "*":
		if n.Mul(a, b); kinds == " money rate" || kinds == " rate money" {
			return floor(n, million)
		}
		return n
	case "/":
		if kinds == " money money" {
			return floor(n.Mul(a, million), b)
		}
		return floor(a, b)
	case "neg":
		return n.Neg(a)
	case "not":
		return bit(a.Sign() == 0)
	case "and":
		return n.Mul(a, b)
	case "or":
		return bit(a.Sign()+b.Sign() > 0)
	case "min", "max":
		if (op == "min") == (cmp < 0) {
			return a
		}
		return b
	}
	return bit(map[string]bool{"<": cmp < 0, "<=": cmp <= 0, ">": cmp > 0, ">=": cmp >= 0, "==": cmp == 0, "!=": cmp != 0}[op])
}

const maxRate = 1000000000000

// opNumbers has numbers of a kind, at its edges and beside them.
func opNumbers(k api.Kind, wild bool) []int64 {
	l := []int64{0, 1}
	switch k {
	case api.Count, api.Money, api.None, api.List:
		l = []int64{0, 1, -1, 2, -2, 3, -7, 100, 109572, -109572, 109573, 67108864, -67108865, 1000000, -999999, api.MaxMoney, -api.MaxMoney, api.MaxMoney - 1, 1 - api.MaxMoney}
	case api.Rate:
		l = []int64{0, 1, -1, 2, 3, -7, 500000, -500000, 999999, 1000000, 1000001, -1000000, -1000001, maxRate, -maxRate, maxRate - 1}
	case api.Date:
		l = []int64{0, 1, 2, 36524, 109571, 109572}
	}
	if wild && k != api.Bool {
		l = append(l, api.MaxMoney+1, -api.MaxMoney-1, maxRate+1, 109573, 1<<62, -1<<62, math.MaxInt64, math.MinInt64+1)
	}
	return l
}

var allOps = strings.Fields("+ - * / < <= > >= == != and or not neg min max if len at sum name lit rule what")

// TestOpModel holds Op against exact numbers: all operators, of all kinds, of numbers that may be; and of greater ones, since numbers may be any.
func TestOpModel(t *testing.T) {
	all := readForms()
	for i := range len(allOps) * 8 * 8 * 2 {
		op, ka, kb := allOps[i/128], api.Kind(i/16%8), api.Kind(i/2%8)
		kindNames := append(slices.Clone(kindNames), "other")
		for _, a := range opNumbers(ka, i%2 == 1) {
			for _, b := range opNumbers(kb, i%2 == 1) {
				kids := []amount{{kindNames[ka], big.NewInt(a), nil}, {kindNames[kb], big.NewInt(b), nil}}
				if op == "neg" || op == "not" {
					kids = kids[:1]
				}
				want, wantErr := modelOp(all, op, kids...)
				got, e := Op(op, value(ka, a), value(kb, b))
				if e != wantErr || e == api.OK && (kindNames[got.Kind] != want.kind || want.n.Cmp(big.NewInt(got.N)) != 0) {
					t.Fatalf("P13.2: Op(%s, %d:%d, %d:%d): %v, %v, want %v, %v", op, ka, a, kb, b, got, e, want, wantErr)
				}
				if e != api.OK && (got.Kind != api.None || got.N != 0) || got.L != nil {
					t.Fatalf("R2: Op(%s, %d:%d, %d:%d): %v, %v", op, ka, a, kb, b, got, e)
				}
			}
		}
	}
}

// TestOpKinds holds the kinds that may be against typ's.
func TestOpKinds(t *testing.T) {
	for i := range len(allOps) * 9 * 9 {
		op, a, b := allOps[i/81], api.Kind(i/9%9-1), api.Kind(i%9-1)
		e := syn.Node{Op: op, Kids: []syn.Node{{Op: "lit", Kind: a}, {Op: "lit", Kind: b}}}
		if op == "neg" || op == "not" {
			e.Kids = e.Kids[:1]
		}
		want := typ.Of(syn.Node{}, e)
		v, err := Op(op, value(a, 1), value(b, 1))
		if v.Kind != want || (err == api.ETYPE) != (want == api.None) {
			t.Errorf("P13.2: Op(%s) of kinds %d and %d: %v, %v, want kind %d", op, a, b, v, err, want)
		}
	}
}

// TestOpOdd checks numbers and lists that no expression has.
func TestOpOdd(t *testing.T) {
	const least = math.MinInt64
	for i, c := range []struct {
		op   string
		a, b api.Value
		want api.Value
		e    api.Errno
	}{
		{"neg", value(api.Count, least), api.Value{}, api.Value{}, api.EOVER},
		{"/", value(api.Count, least), value(api.Count, -1), api.Value{}, api.EOVER},
		{"/", value(api.Money, least), value(api.Money, -1), api.Value{}, api.EOVER},
		{"/", value(api.Money, least), value(api.Money, -1<<62), value(api.Rate, 2000000), api.OK},
		{"/", value(api.Money, 5), value(api.Money, least), api.Value{}, api.EOVER},
		{"+", value(api.Date, math.MaxInt64), value(api.Count, 1), api.Value{}, api.ERANGE},
		{"-", value(api.Date, least), value(api.Count, 1), api.Value{}, api.ERANGE},
		{"-", value(api.Date, least), value(api.Date, 1), api.Value{}, api.EOVER},
		{"max", value(api.Date, -5), value(api.Date, -6), api.Value{}, api.ERANGE},
		{"not", value(api.Bool, 7), api.Value{}, value(api.Bool, 1), api.OK},
		{"and", value(api.Bool, 7), value(api.Bool, 1), api.Value{}, api.EOVER},
		{"and", value(api.Bool, 0), value(api.Bool, 7), value(api.Bool, 0), api.OK},
		{"or", value(api.Bool, 7), value(api.Bool, 1), value(api.Bool, 1), api.OK},
		{"or", value(api.Bool, 0), value(api.Bool, 7), api.Value{}, api.EOVER},
		{"/", value(api.Count, 1), value(api.Money, 0), api.Value{}, api.ETYPE}, // a kind ahead of a nought
		{"max", api.Value{Kind: api.Count, N: 5, L: []int64{1}}, value(api.Count, 4), value(api.Count, 5), api.OK},
		{"neg", value(api.Count, 5), list(1, 2), value(api.Count, -5), api.OK},
		{"not", value(api.Bool, 1), value(99, 99), value(api.Bool, 0), api.OK},
		{"len", list(1, 2), list(1, 2), api.Value{}, api.ETYPE},
		{"+", list(1), list(2), api.Value{}, api.ETYPE},
		{"", value(api.Count, 1), value(api.Count, 1), api.Value{}, api.ETYPE},
	} {
		v, e := Op(c.op, c.a, c.b)
		if e != c.e || v.Kind != c.want.Kind || v.N != c.want.N || v.L != nil {
			t.Errorf("P13.2: Op of number %d: %v, %v, want %v, %v", i, v, e, c.want, c.e)
		}
	}
}

// maker makes statutes without a fault, and values to put in.
type maker struct {
	rng   *rand.Rand
	all   []form
	rules []typ.Field // those that may be named
	sums  []string
}

func (m *maker) one(l ...string) string { return l[m.rng.Intn(len(l))] }

func (m *maker) lit(kind string) string {
	switch kind {
	case "bool":
		return m.one("true", "false")
	case "count":
		return m.one("0", "1", "2", "3", "7", "7", "1000", "4503599627370496")
	case "money":
		return m.one("$0", "$0.01", "$0.33", "$1", "$2.50", "$7", "$1000000", "$45035996273704.96")
	case "rate":
		return m.one("0%", "0.0001%", "7.5%", "33.3333%", "100%", "100000000%")
	}
	return m.one("1900-01-01", "1900-01-08", "2024-02-29", "2199-12-31")
}

// leaf tells a lit, or a name of that kind: an input's, a rule's, a sum's.
func (m *maker) leaf(kind string) string {
	l := []string{"in_" + kind}
	if kind == "moneys" {
		return m.one("in_moneys", "in_few")
	}
	for _, r := range m.rules {
		if kindNames[r.Kind] == kind {
			l = append(l, r.Name)
		}
	}
	if kind == "money" {
		l = append(l, m.sums...)
		l = append(l, m.sums...)
	}
	return m.one(m.lit(kind), m.lit(kind), m.one(l...), m.one(l...))
}

func (m *maker) expr(kind string, size int) string {
	if size <= 0 || kind == "moneys" {
		return m.leaf(kind)
	}
	less := func() int { return m.rng.Intn(size) }
	switch m.rng.Intn(7) {
	case 0:
		key := m.one("count", "money", "date")
		return "at(t_" + key + "_" + kind + ", " + m.expr(key, less()) + ")"
	case 1:
		if kind == "count" || kind == "money" {
			return m.sum(kind, less())
		}
	case 2:
		if kind == "count" {
			return "len(" + m.leaf("moneys") + ")"
		}
	}
	f := m.all[m.rng.Intn(len(m.all))]
	for f.is != kind {
		f = m.all[m.rng.Intn(len(m.all))]
	}
	var kids []string
	for _, k := range f.kids {
		kids = append(kids, m.expr(k, less()))
	}
	switch f.op {
	case "neg", "not":
		return map[string]string{"neg": "(-", "not": "(not "}[f.op] + kids[0] + ")"
	case "if":
		return "(if " + kids[0] + " then " + kids[1] + " else " + kids[2] + ")"
	case "min", "max":
		return f.op + "(" + kids[0] + ", " + kids[1] + ")"
	}
	return "(" + kids[0] + " " + f.op + " " + kids[1] + ")"
}

// sum has its kind in its name, so that the model need not ask for it.
func (m *maker) sum(kind string, size int) string {
	name := fmt.Sprint(kind, "_", len(m.sums))
	head := "sum(" + name + " in " + m.leaf("moneys") + ": "
	m.sums = append(m.sums, name)
	body := m.expr(kind, size)
	m.sums = m.sums[:len(m.sums)-1]
	return head + body + ")"
}

func (m *maker) table(key, kind string) string {
	rows := map[string][]string{"count": {"0", "1", "7"}, "money": {"$0", "$1", "$1.01"}, "date": {"1900-01-01", "1900-01-08", "2024-01-01"}}[key]
	s := "table t_" + key + "_" + kind + " " + key + " " + kind + " { "
	for _, row := range rows[m.rng.Intn(len(rows)+1):] {
		s += row + ": " + m.lit(kind) + ", "
	}
	return s + "else " + m.lit(kind) + " }"
}

// statute tells a text; its rules name one another, and stand in any order.
func (m *maker) statute() string {
	var l []string
	for _, kind := range kindNames[1:] {
		l = append(l, "input in_"+kind+" "+kind+";")
	}
	l = append(l, "input in_few moneys;")
	for _, key := range []string{"count", "money", "date"} {
		for _, kind := range kindNames[1:6] {
			l = append(l, m.table(key, kind))
		}
	}
	for i := range 1 + m.rng.Intn(6) {
		kind := 1 + m.rng.Intn(5)
		name := fmt.Sprint("r", i)
		l = append(l, "rule "+name+" "+kindNames[kind]+" = "+m.expr(kindNames[kind], m.rng.Intn(6))+";")
		m.rules = append(m.rules, typ.Field{Name: name, Kind: api.Kind(kind)})
	}
	m.rng.Shuffle(len(l), func(i, k int) { l[i], l[k] = l[k], l[i] })
	return strings.Join(l, "\n")
}

func (m *maker) number(k api.Kind) int64 {
	l := opNumbers(k, false)
	if m.rng.Intn(2) == 0 {
		return l[m.rng.Intn(2)]
	}
	return l[m.rng.Intn(len(l))]
}

func (m *maker) in(n syn.Node) []api.Value {
	var l []api.Value
	for _, f := range typ.Inputs(n) {
		v := api.Value{Kind: f.Kind}
		if f.Kind != api.List {
			v.N = m.number(f.Kind)
		} else {
			for range m.rng.Intn(4) * m.rng.Intn(3) / (1 + m.rng.Intn(2)) {
				v.L = append(v.L, m.number(api.Money))
			}
		}
		l = append(l, v)
	}
	return l
}

// model works a statute out: names are looked for from the innermost on, among the declarations when they are asked for.
type model struct {
	all  []form
	n    syn.Node
	in   []api.Value
	done []amount // of the sums around
	sums []string
}

func (m *model) named(name string) (amount, api.Errno) {
	if i := slices.Index(m.sums, name); i >= 0 {
		return m.done[i], api.OK
	}
	inputs := 0
	for _, d := range m.n.Kids {
		switch {
		case d.Name == name && d.Op == "input":
			return amountOf(m.in[inputs]), api.OK
		case d.Name == name:
			inner := model{all: m.all, n: m.n, in: m.in}
			return inner.expr(d.Kids[0])
		case d.Op == "input":
			inputs++
		}
	}
	panic("no " + name)
}

func (m *model) expr(e syn.Node) (amount, api.Errno) {
	switch e.Op {
	case "lit":
		return amount{kind: kindNames[e.Kind], n: big.NewInt(e.N)}, api.OK
	case "name":
		return m.named(e.Name)
	}
	a, err := m.expr(e.Kids[0])
	if err != api.OK {
		return amount{}, err
	}
	yes := a.n.Sign() > 0
	switch {
	case e.Op == "if" && yes, e.Op == "and" && yes, e.Op == "or" && !yes:
		return m.expr(e.Kids[1])
	case e.Op == "if":
		return m.expr(e.Kids[2])
	case e.Op == "and", e.Op == "or":
		return a, api.OK
	case e.Op == "len":
		return amount{kind: "count", n: big.NewInt(int64(len(a.list)))}, api.OK
	case e.Op == "at":
		return m.at(e.Name, a.n.Int64()), api.OK
	case e.Op == "sum":
		return m.sum(e, a.list)
	case len(e.Kids) == 1:
		return modelOp(m.all, e.Op, a)
	}
	b, err := m.expr(e.Kids[1])
	if err != api.OK {
		return amount{}, err
	}
	return modelOp(m.all, e.Op, a, b)
}

// at looks a sorted table up from its end.
func (m *model) at(name string, key int64) amount {
	i := slices.IndexFunc(m.n.Kids, func(d syn.Node) bool { return d.Name == name })
	t := m.n.Kids[i]
	row := len(t.Kids) - 1
	for row > 0 && t.Kids[row-1].Kids[0].N >= key {
		row--
	}
	lits := t.Kids[row].Kids
	return amount{kind: kindNames[t.Kind], n: big.NewInt(lits[len(lits)-1].N)}
}

func (m *model) sum(e syn.Node, list []int64) (amount, api.Errno) {
	kind, _, _ := strings.Cut(e.Name, "_")
	total := amount{kind: kind, n: new(big.Int)}
	for _, money := range list {
		inner := model{m.all, m.n, m.in, append(slices.Clone(m.done), amount{kind: "money", n: big.NewInt(money)}), append(slices.Clone(m.sums), e.Name)}
		each, err := inner.expr(e.Kids[1])
		if err != api.OK {
			return amount{}, err
		}
		if total, err = modelOp(m.all, "+", total, each); err != api.OK {
			return amount{}, err
		}
	}
	return total, api.OK
}

// told tells what a statute comes to, as told does.
func (m *model) told() string {
	rules, _ := order.Sort(m.n)
	values := map[string]string{}
	for _, r := range rules {
		v, err := m.named(r)
		if err != api.OK {
			return fmt.Sprint(err, " at ", r)
		}
		values[r] = v.kind + " " + v.n.String()
	}
	var l []string
	for _, f := range typ.Rules(m.n) {
		l = append(l, values[f.Name])
	}
	return strings.Join(l, ", ")
}

func TestMade(t *testing.T) {
	all := readForms()
	rng := rand.New(rand.NewSource(13))
	ends := map[string]int{}
	for range 8000 {
		m := maker{rng: rng, all: all}
		text := m.statute()
		if len(text) > api.MaxText {
			continue
		}
		n := parsed(t, text)
		if at, e := typ.Check(n); e != api.OK {
			t.Fatalf("P11.1: Check(%q): %v at %d", text, e, at)
		}
		for range 4 {
			in := m.in(n)
			want := (&model{all: all, n: n, in: in}).told()
			if got := told(n, in...); got != want {
				t.Fatalf("P13: Run(%s, %v): %s, want %s", text, in, got, want)
			}
			end, _, isError := strings.Cut(want, " at ")
			if !isError {
				end = "values"
			}
			ends[end]++
		}
	}
	for end, least := range map[string]int{"values": 5000, "error 10": 1000, "error 11": 300, "error 12": 300} {
		if ends[end] < least {
			t.Errorf("%s: just %d of %v", end, ends[end], ends)
		}
	}
}
