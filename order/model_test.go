package order

import (
	"fmt"
	"math/big"
	"math/rand"
	"regexp"
	"slices"
	"strings"
	"testing"

	"publican/api"
	"publican/syn"
	"publican/typ"
)

// maker makes statutes of counts, whose rules r0, r1, ... name one another.
type maker struct {
	rng   *rand.Rand
	rules int
	sums  int
	from  int // names are of rules behind this one, but for a few
}

func (m *maker) one(l ...string) string { return l[m.rng.Intn(len(l))] }

func (m *maker) name() string {
	if m.from+1 < m.rules && m.rng.Intn(30) > 0 {
		return fmt.Sprint("r", m.from+1+m.rng.Intn(m.rules-m.from-1))
	}
	if m.rng.Intn(10) > 0 {
		return "i"
	}
	return fmt.Sprint("r", m.rng.Intn(m.rules))
}

func (m *maker) expr(size int) string {
	if size == 0 {
		return m.one("1", "i", "len(l)", m.name(), m.name(), m.name())
	}
	kid := func() string { return m.expr(m.rng.Intn(size)) }
	switch m.rng.Intn(9) {
	case 0:
		return "(-" + kid() + ")"
	case 1:
		return m.one("min", "max") + "(" + kid() + ", " + kid() + ")"
	case 2:
		return "at(t, " + kid() + ")"
	case 3:
		return "(if " + m.test(size) + " then " + kid() + " else " + kid() + ")"
	case 4:
		m.sums++
		head := fmt.Sprint("sum(x", m.sums, " in l: ")
		return head + kid() + ")"
	}
	return "(" + kid() + " " + m.one("+", "-", "*", "/") + " " + kid() + ")"
}

func (m *maker) test(size int) string {
	switch m.rng.Intn(4) {
	case 0:
		return m.one("true", "false")
	case 1:
		return "(not " + m.test(size) + ")"
	case 2:
		return "(" + m.test(size) + m.one(" and ", " or ") + m.test(size) + ")"
	}
	return "(" + m.expr(m.rng.Intn(size)) + m.one(" < ", " <= ", " > ", " >= ", " == ", " != ") + m.expr(m.rng.Intn(size)) + ")"
}

// statute tells a text; its rules stand in any order.
func (m *maker) statute() string {
	l := []string{"input i count;", "input l moneys;", "table t count count { 1: 2, else 3 }"}
	for i := range m.rules {
		m.from = i
		l = append(l, fmt.Sprint("rule r", i, " count = ", m.expr(m.rng.Intn(5)), ";"))
	}
	m.rng.Shuffle(len(l), func(i, k int) { l[i], l[k] = l[k], l[i] })
	return strings.Join(l, "\n")
}

// modelNames reads the names out of the rule's own line of the text.
func modelNames(text, rule string) []string {
	line := regexp.MustCompile(`(?m)^rule ` + rule + ` count = (.*);$`).FindStringSubmatch(text)
	l := regexp.MustCompile(`r[0-9]+`).FindAllString(line[1], -1)
	slices.Sort(l)
	return slices.Compact(l)
}

// firstOrder tries all orders, from that of the text on, and tells the first in which each rule is behind those it names.
func firstOrder(rules []string, names map[string][]string, done []string) ([]string, bool) {
	if len(done) == len(rules) {
		return done, true
	}
	for _, r := range rules {
		if slices.Contains(done, r) || !all(names[r], func(s string) bool { return slices.Contains(done, s) }) {
			continue
		}
		if l, ok := firstOrder(rules, names, append(slices.Clone(done), r)); ok {
			return l, true
		}
	}
	return nil, false
}

func all(l []string, holds func(string) bool) bool {
	return !slices.ContainsFunc(l, func(s string) bool { return !holds(s) })
}

// modelSteps weighs each node by how often it is done at most, and sums up; of the two that an if may choose it tries both.
func modelSteps(e syn.Node, times *big.Int) *big.Int {
	sum := new(big.Int)
	add := func(own int64, kids ...*big.Int) *big.Int {
		sum.Mul(times, big.NewInt(own))
		for _, k := range kids {
			sum.Add(sum, k)
		}
		return sum
	}
	switch e.Op {
	case "lit", "name":
		return add(1)
	case "if":
		test := modelSteps(e.Kids[0], times)
		one, other := modelSteps(e.Kids[1], times), modelSteps(e.Kids[2], times)
		if one.Cmp(other) < 0 {
			one = other
		}
		return add(3, test, one)
	case "sum":
		return add(4+16*4, modelSteps(e.Kids[0], times), modelSteps(e.Kids[1], new(big.Int).Mul(times, big.NewInt(16))))
	case "neg", "not", "len", "at":
		return add(1, modelSteps(e.Kids[0], times))
	}
	return add(1, modelSteps(e.Kids[0], times), modelSteps(e.Kids[1], times))
}

// modelDeep goes down with what is below already, and tells the most that a lit or name ever stands on, itself too.
func modelDeep(e syn.Node, below int) int {
	switch e.Op {
	case "lit", "name":
		return below + 1
	case "if":
		return max(modelDeep(e.Kids[0], below), modelDeep(e.Kids[1], below), modelDeep(e.Kids[2], below))
	case "sum":
		return max(modelDeep(e.Kids[0], below), modelDeep(e.Kids[1], below+3))
	case "neg", "not", "len", "at":
		return modelDeep(e.Kids[0], below)
	}
	return max(modelDeep(e.Kids[0], below), modelDeep(e.Kids[1], below+1))
}

func TestMade(t *testing.T) {
	rng := rand.New(rand.NewSource(12))
	rings, orders := 0, 0
	for range 6000 {
		m := maker{rng: rng, rules: 1 + rng.Intn(9)}
		text := m.statute()
		n, _, e := syn.Parse(text)
		if e != api.OK {
			continue
		}
		var rules []string
		names := map[string][]string{}
		steps, deep := new(big.Int), 0
		for _, r := range typ.Rules(n) {
			rules = append(rules, r.Name)
			names[r.Name] = modelNames(text, r.Name)
			if l := Names(n, r.Name); !slices.Equal(l, names[r.Name]) {
				t.Fatalf("P12.1: Names of %s in %q: %v, want %v", r.Name, text, l, names[r.Name])
			}
		}
		for _, d := range n.Kids {
			if d.Op == "rule" {
				steps.Add(steps, big.NewInt(2))
				steps.Add(steps, modelSteps(d.Kids[0], big.NewInt(1)))
				deep = max(deep, modelDeep(d.Kids[0], 0))
			}
		}
		want, ok := firstOrder(rules, names, nil)
		if !ok {
			rings++
			refused(t, n, api.ETYPE)
			continue
		}
		orders++
		if l, e := Sort(n); !slices.Equal(l, want) || e != api.OK {
			t.Fatalf("P12.1: Sort(%q): %v, %v, want %v", text, l, e, want)
		}
		size(t, n, steps.Int64(), deep)
	}
	if rings < 500 || orders < 2000 {
		t.Errorf("%d rings, %d orders", rings, orders)
	}
}
