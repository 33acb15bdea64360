package fold

import (
	"fmt"
	"math/rand"
	"slices"
	"strings"
	"testing"

	"publican/api"
	"publican/mean"
	"publican/order"
	"publican/syn"
	"publican/typ"
)

var kindNames = []string{"none", "bool", "count", "money", "rate", "date", "moneys"}

// forms has expressions of each kind, with a great letter for what stands in them: B a bool, C a count, M a money, R a rate, D a date.
var forms = map[byte][]string{
	'B': {"C < C", "M <= M", "R > R", "D >= D", "C == C", "M != M", "B == B", "B != B", "B and B", "B or B", "B and B", "B or B", "not B", "if B then B else B"},
	'C': {"C + C", "C - C", "C * C", "C / C", "D - D", "- C", "min(C, C)", "max(C, C)", "if B then C else C", "len(L)", "at(tc, M)", "sum(S in L: C)"},
	'M': {"M + M", "M - M", "M * C", "C * M", "M * R", "R * M", "M / C", "- M", "min(M, M)", "max(M, M)", "if B then M else M", "at(tm, D)", "sum(S in L: M)"},
	'R': {"R + R", "R - R", "R * C", "C * R", "M / M", "- R", "min(R, R)", "max(R, R)", "if B then R else R", "at(tr, C)"},
	'D': {"D + C", "D - C", "min(D, D)", "max(D, D)", "if B then D else D", "at(td, C)"},
}

var lits = map[byte][]string{
	'B': {"true", "false"},
	'C': {"0", "1", "2", "3", "1000", "4503599627370496"},
	'M': {"$0", "$0.01", "$0.33", "$2.50", "$1000000", "$45035996273704.96"},
	'R': {"0%", "0.0001%", "7.5%", "100%", "100000000%"},
	'D': {"1900-01-01", "1900-01-02", "2024-02-29", "2199-12-31"},
}

const tables = `table tc money count { $0: 1, $1: 0, else 3 } table tm date money { 1999-12-31: $1, else $0 }
table tr count rate { 1: 5%, 2: 100%, else 0% } table td count date { 0: 1900-01-01, else 2024-01-01 }`

// maker makes statutes without a fault, and values to put in.
type maker struct {
	rng   *rand.Rand
	rules []string // those that may be named; the last letter tells the kind
	sums  []string
	made  int // how many sums
}

func (m *maker) one(l ...string) string { return l[m.rng.Intn(len(l))] }

func (m *maker) leaf(kind byte) string {
	if m.rng.Intn(5) > 1 {
		return m.one(lits[kind]...)
	}
	small := kind + 'a' - 'A' // names have no great letters
	l := []string{"in" + string(small)}
	for _, r := range m.rules {
		if r[len(r)-1] == small {
			l = append(l, r)
		}
	}
	if kind == 'M' {
		l = append(l, m.sums...)
	}
	return m.one(l...)
}

// expr fills one of the kind's forms.
func (m *maker) expr(kind byte, size int) string {
	if size == 0 {
		return m.leaf(kind)
	}
	s := ""
	sum := ""
	for _, c := range []byte(m.one(forms[kind]...)) {
		switch c {
		case 'B', 'C', 'M', 'R', 'D':
			s += m.expr(c, m.rng.Intn(size))
		case 'L':
			s += m.one("inl", "ink")
		case 'S':
			m.made++
			sum = fmt.Sprint("s", m.made)
			s += sum
		case ':':
			m.sums = append(m.sums, sum)
			s += ":"
		default:
			s += string(c)
		}
	}
	if sum != "" {
		m.sums = m.sums[:len(m.sums)-1]
	}
	return "(" + s + ")"
}

// statute tells a text; its rules stand in any order.
func (m *maker) statute() string {
	l := []string{"input inb bool;", "input inc count;", "input inm money;", "input inr rate;", "input ind date;", "input inl moneys;", "input ink moneys;", tables}
	for i := range 1 + m.rng.Intn(5) {
		k := m.rng.Intn(5)
		r := fmt.Sprint("r", i, string("bcmrd"[k]))
		l = append(l, "rule "+r+" "+kindNames[k+1]+" = "+m.expr("BCMRD"[k], m.rng.Intn(6))+";")
		m.rules = append(m.rules, r)
	}
	m.rng.Shuffle(len(l), func(i, k int) { l[i], l[k] = l[k], l[i] })
	return strings.Join(l, "\n")
}

func (m *maker) in(n syn.Node) []api.Value {
	var l []api.Value
	for _, f := range typ.Inputs(n) {
		v := api.Value{Kind: f.Kind}
		switch f.Kind {
		case api.List:
			for range m.rng.Intn(4) {
				v.L = append(v.L, m.rng.Int63n(1000)-300)
			}
		case api.Bool, api.Date:
			v.N = m.rng.Int63n(2)
		default:
			v.N = m.rng.Int63n(7) - 3
		}
		l = append(l, v)
	}
	return l
}

// step does one sentence of the chapter at a node itself, whatever its kids are; of operators mean's Run tells the value.
func step(e syn.Node) (syn.Node, bool) {
	if len(e.Kids) == 0 || e.Op == "len" || e.Op == "at" || e.Op == "sum" {
		return e, false
	}
	first := e.Kids[0]
	switch {
	case first.Op != "lit":
		return e, false
	case e.Op == "and" && first.N == 0, e.Op == "or" && first.N == 1:
		return first, true
	case e.Op == "and", e.Op == "or", e.Op == "if" && first.N == 1:
		return e.Kids[1], true
	case e.Op == "if":
		return e.Kids[2], true
	case e.Kids[len(e.Kids)-1].Op != "lit":
		return e, false
	}
	rule := syn.Node{Op: "rule", Name: "r", Kind: typ.Of(syn.Node{}, e), Kids: []syn.Node{e}}
	o, _ := mean.Run(syn.Node{Op: "statute", Kids: []syn.Node{rule}}, nil)
	if len(o.Values) == 0 {
		return e, false
	}
	return syn.Node{Op: "lit", Kind: o.Values[0].Kind, N: o.Values[0].N, At: e.At}, true
}

// rewritten does one step at some node, here or below, if there is one to be done: kids first or not, in no order.
func rewritten(rng *rand.Rand, e syn.Node) (syn.Node, bool) {
	for _, i := range rng.Perm(len(e.Kids) + 1) {
		if i == len(e.Kids) {
			if f, ok := step(e); ok {
				return f, true
			}
			continue
		}
		if kid, ok := rewritten(rng, e.Kids[i]); ok {
			e.Kids = slices.Clone(e.Kids)
			e.Kids[i] = kid
			return e, true
		}
	}
	return e, false
}

// modelFold does steps for as long as there are any.
func modelFold(rng *rand.Rand, n syn.Node) syn.Node {
	n.Kids = slices.Clone(n.Kids)
	for i, d := range n.Kids {
		if d.Op != "rule" {
			continue
		}
		e, more := d.Kids[0], true
		for more {
			e, more = rewritten(rng, e)
		}
		d.Kids = []syn.Node{e}
		n.Kids[i] = d
	}
	return n
}

// sameMeaning checks P15.2 of one run, and tells how it ended.
func sameMeaning(t *testing.T, n, f syn.Node, in []api.Value) string {
	a, e := mean.Run(n, in)
	b, folded := mean.Run(f, in)
	alike := func(v, w api.Value) bool { return v.Kind == w.Kind && v.N == w.N && len(v.L)+len(w.L) == 0 }
	if e != api.OK || folded != api.OK || (a.Err == api.OK) != (b.Err == api.OK) || !slices.EqualFunc(a.Values, b.Values, alike) {
		t.Fatalf("P15.2: Run(%s, %v): %v, %v, of its fold %s: %v, %v", syn.Show(n), in, a, e, syn.Show(f), b, folded)
	}
	switch {
	case a.Err == api.OK:
		return "values"
	case a.Rule == b.Rule && a.Err == b.Err:
		return "error"
	}
	return "another error"
}

// checkFold checks what is promised of a statute's fold, whatever is put in.
func checkFold(t *testing.T, rng *rand.Rand, n, f syn.Node) {
	if want := modelFold(rng, n); !alike(f, want) {
		t.Fatalf("P15.1: Fold(%s): %s, want %s", syn.Show(n), syn.Show(f), syn.Show(want))
	}
	if !alike(Fold(f), f) {
		t.Fatalf("P15.2: Fold of Fold(%s): %s", syn.Show(n), syn.Show(Fold(f)))
	}
	if at, e := typ.Check(f); e != api.OK {
		t.Fatalf("P15.2: Check of Fold(%s): %v at %d", syn.Show(n), e, at)
	}
	steps, _ := order.Steps(n)
	fewer, e := order.Steps(f)
	if Size(f) > Size(n) || fewer > steps || e != api.OK {
		t.Fatalf("P15.2: Fold(%s) is greater: %d, %d nodes, %d, %d steps", syn.Show(n), Size(f), Size(n), fewer, steps)
	}
}

func TestMade(t *testing.T) {
	rng := rand.New(rand.NewSource(15))
	ends := map[string]int{}
	for range 6000 {
		m := maker{rng: rng}
		text := m.statute()
		if len(text) > api.MaxText {
			continue
		}
		n := parsed(t, text)
		if _, e := order.Steps(n); e != api.OK {
			t.Fatalf("P12.2: Steps(%s): %v", text, e)
		}
		f := Fold(n)
		checkFold(t, rng, n, f)
		if Size(f) < Size(n) {
			ends["less"]++
		}
		for range 4 {
			ends[sameMeaning(t, n, f, m.in(n))]++
		}
	}
	for end, least := range map[string]int{"less": 3000, "values": 5000, "error": 3000, "another error": 1} {
		if ends[end] < least {
			t.Errorf("%s: just %d of %v", end, ends[end], ends)
		}
	}
	t.Log(ends)
}
