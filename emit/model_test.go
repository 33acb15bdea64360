package emit

import (
	"fmt"
	"math/rand"
	"strings"
	"testing"

	"publican/api"
	"publican/fold"
	"publican/mach"
	"publican/order"
	"publican/syn"
	"publican/typ"
	"publican/verify"
)

// shapes has expressions of each kind, with a great letter for what stands in them: B a bool, C a count, M a money, R a rate, D a date,
// L a list, and S a new name, which may be used behind the colon.
var shapes = map[byte]string{
	'B': "C < C|M <= M|R > R|D >= D|C == C|M != M|B == B|B != B|B and B|B or B|B and B|B or B|not B|not B|if B then B else B|at(tb, D)",
	'C': "C + C|C - C|C * C|C / C|D - D|- C|min(C, C)|max(C, C)|if B then C else C|if B then C else C|len(L)|at(tc, M)|sum(S in L: C)",
	'M': "M + M|M - M|M * C|C * M|M * R|R * M|M / C|- M|min(M, M)|max(M, M)|if B then M else M|if B then M else M|at(tm, D)|sum(S in L: M)",
	'R': "R + R|R - R|R * C|C * R|M / M|- R|min(R, R)|max(R, R)|if B then R else R|at(tr, C)",
	'D': "D + C|D - C|min(D, D)|max(D, D)|if B then D else D|at(td, C)",
}

var constants = map[byte]string{
	'B': "true|false", 'C': "0|1|2|7|1000|4503599627370496", 'M': "$0|$0.01|$0.33|$2.50|$45035996273704.96",
	'R': "0%|0.0001%|7.5%|100%|100000000%", 'D': "1900-01-01|1900-01-02|2024-02-29|2199-12-31",
}

const declared = `input inb bool; input inc count; input inm money; input inr rate; input ind date; input inl moneys; input ink moneys;
input iob bool; input ioc count; table tb date bool { 1900-01-01: true, else false } table tc money count { $0: 1, $1: 0, else 3 }
table tm date money { 1999-12-31: $1, else $0 } table tr count rate { 1: 5%, 2: 100%, else 0% } table td count date { 0: 1900-01-01, else 2024-01-01 }`

// statuter makes statutes without a fault, and values to put in.
type statuter struct {
	rng   *rand.Rand
	rules []string // those that may be named; the last letter tells the kind
	sums  []string
	made  int // how many sums
}

func (m *statuter) one(l []string) string { return l[m.rng.Intn(len(l))] }

func (m *statuter) leaf(kind byte) string {
	small := string(kind + 'a' - 'A') // names have no great letters
	l := []string{"in" + small, m.one(strings.Split(constants[kind], "|"))}
	if kind == 'B' || kind == 'C' {
		l = append(l, "io"+small, "io"+small)
	}
	for _, r := range m.rules {
		if strings.HasSuffix(r, small) {
			l = append(l, r)
		}
	}
	if kind == 'M' {
		l = append(append(l, m.sums...), m.sums...)
	}
	return m.one(l)
}

// expr fills one of the kind's shapes.
func (m *statuter) expr(kind byte, size int) string {
	if size <= 0 {
		return m.leaf(kind)
	}
	s, sum := "", ""
	for _, c := range []byte(m.one(strings.Split(shapes[kind], "|"))) {
		switch c {
		case 'B', 'C', 'M', 'R', 'D':
			s += m.expr(c, m.rng.Intn(size))
		case 'L':
			s += m.one([]string{"inl", "ink"})
		case 'S':
			m.made++
			sum = fmt.Sprint("s", m.made)
			s += sum
		case ':':
			m.sums = append(m.sums, sum)
			s += ":"
		default:
			s += string(c)
		}
	}
	if sum != "" {
		m.sums = m.sums[:len(m.sums)-1]
	}
	return "(" + s + ")"
}

// statute tells a text; its rules stand in any order.
func (m *statuter) statute(size int) string {
	m.rules = nil
	l := []string{declared}
	for i := range 1 + m.rng.Intn(6) {
		k := m.rng.Intn(5)
		r := fmt.Sprint("r", i, string("bcmrd"[k]))
		l = append(l, fmt.Sprintf("rule %s %s = %s;", r, []string{"bool", "count", "money", "rate", "date"}[k], m.expr("BCMRD"[k], m.rng.Intn(size))))
		m.rules = append(m.rules, r)
	}
	m.rng.Shuffle(len(l), func(i, k int) { l[i], l[k] = l[k], l[i] })
	return strings.Join(l, "\n")
}

func (m *statuter) number(k api.Kind) int64 {
	switch k {
	case api.Bool:
		return m.rng.Int63n(2)
	case api.Date:
		return []int64{0, 1, 36000, 45000, api.MaxDay}[m.rng.Intn(5)]
	case api.Rate:
		return []int64{0, 1, -1, 75000, -2000000, 1000000000000}[m.rng.Intn(6)]
	}
	return []int64{0, 1, -1, 2, 3, 100, -250, 5000, api.MaxMoney}[m.rng.Intn(9)]
}

func (m *statuter) in(n syn.Node) []api.Value {
	var l []api.Value
	for _, f := range typ.Inputs(n) {
		v := api.Value{Kind: f.Kind}
		if f.Kind == api.List {
			for range m.rng.Intn(4) * m.rng.Intn(2) {
				v.L = append(v.L, m.number(api.Money))
			}
		} else {
			v.N = m.number(f.Kind)
		}
		l = append(l, v)
	}
	return l
}

// bounds checks that what the maker told itself of steps and stack is what verify finds.
func bounds(t *testing.T, n syn.Node) {
	t.Helper()
	rules, _ := order.Sort(n)
	m := write(fold.Fold(n), rules)
	p := m.program()
	b, f, ok := verify.Check(p)
	if !ok || b.Steps != m.now.steps || b.Stack != m.highest || m.now.height != 0 {
		t.Fatalf("%.2000s: %v, %v, made %v, %d", syn.Show(n), b, f, m.now, m.highest)
	}
}

// TestMade holds the outcomes of made statutes against mean's (T1), and those that are small against P16.1's "never".
func TestMade(t *testing.T) {
	m := &statuter{rng: rand.New(rand.NewSource(16))}
	ends := map[string]int{}
	for turn := range 3000 {
		text := m.statute(4 + turn%7)
		n, _, e := syn.Parse(text)
		if e != api.OK {
			continue
		}
		steps, e := order.Steps(n)
		deep, _ := order.Deep(n)
		p, f := Emit(n)
		if e != f && (e != api.OK || f != api.ELIMIT) || f != api.OK && e == api.OK && steps <= 400 && deep <= 20 {
			t.Fatalf("P16.1: %s: %v, of %v, %d steps, %d deep", text, f, e, steps, deep)
		}
		if f != api.OK {
			ends["refused"]++
			continue
		}
		emitted(t, n)
		bounds(t, n)
		if steps > 1<<16 {
			continue
		}
		for range 12 {
			in := m.in(n)
			end := means(t, n, p, in...)
			ends[end[:len("error 0")]]++
			if o, _ := mach.Run(p, in); o.Steps > 4*steps+8 {
				t.Fatalf("P16.1: %d steps of %s", o.Steps, text)
			}
		}
	}
	if ends["error 0"] < 10000 || ends["error 1"] < 5000 {
		t.Errorf("%v", ends)
	}
}

// TestBools holds made tests against mean's, on all values of their names: what is and, or, not, ==, if of bools, and what has an error.
func TestBools(t *testing.T) {
	m := &statuter{rng: rand.New(rand.NewSource(17))}
	var expr func(size int) string
	expr = func(size int) string {
		if size == 0 {
			return m.one([]string{"a", "b", "c", "x > y", "x >= y", "x != y", "x < y", "x == y", "1 / x > 0", "1 / y == x", "true", "false"})
		}
		kid := func() string { return "(" + expr(m.rng.Intn(size)) + ")" }
		switch m.rng.Intn(6) {
		case 0, 1:
			return kid() + " and " + kid()
		case 2, 3:
			return kid() + " or " + kid()
		case 4:
			return "not " + kid()
		}
		return m.one([]string{kid() + " == " + kid(), kid() + " != " + kid(), "if " + kid() + " then " + kid() + " else " + kid()})
	}
	for range 1000 {
		n := parsed(t, fmt.Sprintf("input a bool; input b bool; input c bool; input x count; input y count; rule r bool = %s; rule s count = if %s then 1 else 2;", expr(6), expr(6)))
		p := emitted(t, n)
		bounds(t, n)
		for bits := range int64(32) {
			means(t, n, p, value(1, bits&1), value(1, bits>>1&1), value(1, bits>>2&1), value(2, bits>>3&1), value(2, bits>>4&1))
		}
	}
}
