package typ

import (
	"math/rand"
	"slices"
	"strings"
	"testing"

	"publican/api"
	"publican/syn"
)

// sentences has what the chapter says of expressions whose kids are all that matters: an operator, its kids' kinds, its own.
const sentences = `
+ count count: count | + money money: money | + rate rate: rate | + date count: date
- count count: count | - money money: money | - rate rate: rate | - date date: count | - date count: date
* count count: count | * money count: money | * count money: money | * money rate: money | * rate money: money
* rate count: rate | * count rate: rate
/ count count: count | / money count: money | / money money: rate
< count count: bool | < money money: bool | < rate rate: bool | < date date: bool
<= count count: bool | <= money money: bool | <= rate rate: bool | <= date date: bool
> count count: bool | > money money: bool | > rate rate: bool | > date date: bool
>= count count: bool | >= money money: bool | >= rate rate: bool | >= date date: bool
== count count: bool | == money money: bool | == rate rate: bool | == date date: bool | == bool bool: bool
!= count count: bool | != money money: bool | != rate rate: bool | != date date: bool | != bool bool: bool
and bool bool: bool | or bool bool: bool | not bool: bool
neg count: count | neg money: money | neg rate: rate
if bool bool bool: bool | if bool count count: count | if bool money money: money | if bool rate rate: rate | if bool date date: date
min count count: count | min money money: money | min rate rate: rate | min date date: date
max count count: count | max money money: money | max rate rate: rate | max date date: date
len moneys: count
`

var modelKinds = []string{"", "bool", "count", "money", "rate", "date", "moneys"}

// sentence is one of them.
type sentence struct {
	op   string
	kids []string
	is   string
}

func readSentences() []sentence {
	var l []sentence
	for _, line := range strings.Split(strings.TrimSpace(sentences), "\n") {
		for _, s := range strings.Split(line, " | ") {
			head, is, _ := strings.Cut(s, ": ")
			words := strings.Fields(head)
			l = append(l, sentence{words[0], words[1:], is})
		}
	}
	return l
}

// model tells all faults of a tree, in the chapter's order, and goes on behind each.
type model struct {
	all    []sentence
	n      syn.Node
	around []Field
	faults []int
}

func (m *model) fault(at int) { m.faults = append(m.faults, at) }

func (m *model) decl(name string, ops ...string) *syn.Node {
	for i := range m.n.Kids {
		if d := &m.n.Kids[i]; d.Name == name && slices.Contains(ops, d.Op) {
			return d
		}
	}
	return nil
}

func (m *model) statute() {
	for i, d := range m.n.Kids {
		for _, elder := range m.n.Kids[:i] {
			if elder.Name == d.Name {
				m.fault(d.At)
			}
		}
		if i == 64 {
			m.fault(d.At)
		}
	}
	for _, d := range m.n.Kids {
		if d.Op == "table" {
			m.table(d)
		}
	}
	for _, d := range m.n.Kids {
		if d.Op != "rule" {
			continue
		}
		if d.Kind == api.List {
			m.fault(d.At)
		}
		if k := m.expr(d.Kids[0]); k != modelKinds[d.Kind] {
			m.fault(d.At)
		}
	}
}

func (m *model) table(d syn.Node) {
	if k := modelKinds[d.N]; !strings.Contains("count money date", k) || d.Kind == api.List {
		m.fault(d.At)
	}
	before := int64(-1)
	for i, row := range d.Kids {
		if i < len(d.Kids)-1 {
			key := row.Kids[0]
			if int64(key.Kind) != d.N || key.N <= before {
				m.fault(row.At)
			}
			before = key.N
		}
		if row.Kids[len(row.Kids)-1].Kind != d.Kind {
			m.fault(row.At)
		}
	}
}

// expr tells a kind's name, or nothing where there is a fault.
func (m *model) expr(e syn.Node) string {
	kinds := ""
	for i, kid := range e.Kids {
		if e.Op == "sum" && i == 1 {
			m.around = append(m.around, Field{e.Name, api.Money})
		}
		kinds += " " + m.expr(kid)
	}
	if e.Op == "sum" {
		m.around = m.around[:len(m.around)-1]
	}
	is := m.is(e, kinds)
	if is == "" {
		m.fault(e.At)
	}
	return is
}

func (m *model) is(e syn.Node, kinds string) string {
	switch e.Op {
	case "lit":
		return modelKinds[e.Kind]
	case "name":
		for i := len(m.around) - 1; i >= 0; i-- {
			if m.around[i].Name == e.Name {
				return modelKinds[m.around[i].Kind]
			}
		}
		if d := m.decl(e.Name, "input", "rule"); d != nil {
			return modelKinds[d.Kind]
		}
		return ""
	case "at":
		if d := m.decl(e.Name, "table"); d != nil && kinds == " "+modelKinds[d.N] {
			return modelKinds[d.Kind]
		}
		return ""
	case "sum":
		again := m.decl(e.Name, "input", "rule", "table") != nil
		for _, f := range m.around {
			again = again || f.Name == e.Name
		}
		switch {
		case !again && kinds == " moneys money":
			return "money"
		case !again && kinds == " moneys count":
			return "count"
		}
		return ""
	}
	for _, s := range m.all {
		if s.op == e.Op && " "+strings.Join(s.kids, " ") == kinds {
			return s.is
		}
	}
	return ""
}

// checkModel holds a statute against the model, and tells whether it has a fault.
func checkModel(t *testing.T, all []sentence, text string) bool {
	t.Helper()
	n := parsed(t, text)
	m := model{all: all, n: n}
	m.statute()
	at, e := Check(n)
	if len(m.faults) == 0 {
		if at != 0 || e != api.OK {
			t.Fatalf("P11.1: Check(%q): %d, %v, want no fault", text, at, e)
		}
		return false
	}
	if at != m.faults[0] || e != api.ETYPE {
		t.Fatalf("P11.1: Check(%q): %d, %v, want ETYPE at %d", text, at, e, m.faults[0])
	}
	return true
}

// TestAllKinds asks each operator of all kinds.
func TestAllKinds(t *testing.T) {
	all := readSentences()
	n := parsed(t, "input b bool; input c count; input m money; input r rate; input d date; input l moneys; ")
	names := []string{"", "b", "c", "m", "r", "d", "l"}
	for op, form := range map[string]string{
		"+": "1 + 2", "-": "1 - 2", "*": "1 * 2", "/": "1 / 2", "<": "1 < 2", "<=": "1 <= 2", ">": "1 > 2", ">=": "1 >= 2",
		"==": "1 == 2", "!=": "1 != 2", "and": "1 and 2", "or": "1 or 2", "not": "not 1", "neg": "- 1", "len": "len(1)",
		"min": "min(1, 2)", "max": "max(1, 2)", "if": "if 1 then 2 else 3",
	} {
		for i := range 6 * 6 * 6 {
			kinds := []api.Kind{api.Kind(i/36 + 1), api.Kind(i/6%6 + 1), api.Kind(i%6 + 1)}
			text := strings.NewReplacer("1", names[kinds[0]], "2", names[kinds[1]], "3", names[kinds[2]]).Replace(form)
			m := model{all: all, n: n}
			want := m.expr(expression(t, text))
			if k := Of(n, expression(t, text)); modelKinds[k] != want {
				t.Errorf("P11.1: %s of %v: %d, want %q", op, kinds, k, want)
			}
			for _, is := range modelKinds[1:6] {
				checkModel(t, all, "input b bool; input c count; input m money; input r rate; input d date; input l moneys; rule x "+is+" = "+text+";")
			}
		}
	}
}

// maker makes texts of statutes, most of which have few faults.
type maker struct {
	rng  *rand.Rand
	all  []sentence
	wild int // one of so many parts is of any kind
	sums []string
}

func (m *maker) one(l ...string) string { return l[m.rng.Intn(len(l))] }

func (m *maker) kind() string { return m.one("bool", "count", "money", "rate", "date") }

func (m *maker) lit(kind string) string {
	if m.rng.Intn(m.wild) == 0 {
		kind = m.kind()
	}
	switch kind {
	case "bool":
		return m.one("true", "false")
	case "count":
		return m.one("0", "1", "7")
	case "money":
		return m.one("$0", "$1", "$7")
	case "rate":
		return m.one("1%", "7%")
	}
	return m.one("2024-01-01", "1999-12-31")
}

// name tells one of the two names that a statute here has of each kind.
func (m *maker) name(kind string) string { return kind[:1] + kind[len(kind)-1:] + m.one("1", "2") }

func (m *maker) expr(kind string, size int) string {
	if m.rng.Intn(m.wild) == 0 {
		kind = m.one("bool", "count", "money", "rate", "date", "moneys")
	}
	if size == 0 || kind == "moneys" {
		switch {
		case kind == "money" && len(m.sums) > 0 && m.rng.Intn(2) == 0:
			return m.one(m.sums...)
		case kind == "moneys" || m.rng.Intn(2) == 0:
			return m.name(kind)
		}
		return m.lit(kind)
	}
	switch m.rng.Intn(6) {
	case 0:
		if kind == "money" || kind == "count" {
			return m.sum(kind, size)
		}
	case 1:
		key := m.one("count", "money", "date")
		return "at(t" + key[:1] + kind[:1] + ", " + m.expr(key, size-1) + ")"
	}
	s := m.all[m.rng.Intn(len(m.all))]
	for s.is != kind {
		s = m.all[m.rng.Intn(len(m.all))]
	}
	return m.sentence(s, size)
}

func (m *maker) sentence(s sentence, size int) string {
	var kids []string
	for _, k := range s.kids {
		kids = append(kids, m.expr(k, size-1))
	}
	switch s.op {
	case "neg":
		return "(-" + kids[0] + ")"
	case "not":
		return "(not " + kids[0] + ")"
	case "if":
		return "(if " + kids[0] + " then " + kids[1] + " else " + kids[2] + ")"
	case "min", "max", "len":
		return s.op + "(" + strings.Join(kids, ", ") + ")"
	}
	return "(" + kids[0] + " " + s.op + " " + kids[1] + ")"
}

func (m *maker) sum(kind string, size int) string {
	name := "x" + strings.Repeat("x", len(m.sums))
	if m.rng.Intn(m.wild) == 0 {
		name = m.one("x", "xx", "xxx", "my1", "ct1", "tcc")
	}
	list := m.expr("moneys", size-1)
	m.sums = append(m.sums, name)
	s := "sum(" + name + " in " + list + ": " + m.expr(kind, size-1) + ")"
	m.sums = m.sums[:len(m.sums)-1]
	return s
}

func (m *maker) table(key, kind string) string {
	s := "table t" + key[:1] + kind[:1] + " "
	if m.rng.Intn(m.wild) == 0 {
		key = m.one("bool", "rate", "moneys")
	}
	if m.rng.Intn(m.wild) == 0 {
		kind = "moneys"
	}
	s += key + " " + kind + " { "
	keys := map[string][]string{"count": {"1", "2", "5"}, "money": {"$1", "$2", "$5"}, "date": {"1999-01-01", "1999-01-02", "2024-01-01"}}[key]
	keys = keys[:m.rng.Intn(len(keys)+1)]
	if m.rng.Intn(m.wild) == 0 && len(keys) > 0 {
		keys[m.rng.Intn(len(keys))] = keys[m.rng.Intn(len(keys))]
	}
	for _, k := range keys {
		if m.rng.Intn(m.wild) == 0 {
			k = m.lit(key)
		}
		s += k + ": " + m.lit(kind) + ", "
	}
	return s + "else " + m.lit(kind) + " }"
}

func (m *maker) statute() string {
	var l []string
	for _, kind := range modelKinds[1:] {
		for _, no := range []string{"1", "2"} {
			is := kind
			if m.rng.Intn(m.wild) == 0 {
				is = m.kind()
			}
			name := kind[:1] + kind[len(kind)-1:] + no
			if kind == "moneys" && m.rng.Intn(m.wild) > 0 || m.rng.Intn(2) == 0 {
				l = append(l, "input "+name+" "+is+";")
			} else {
				l = append(l, "rule "+name+" "+is+" = "+m.expr(is, m.rng.Intn(5))+";")
			}
		}
	}
	for _, key := range []string{"count", "money", "date"} {
		for _, kind := range modelKinds[1:6] {
			l = append(l, m.table(key, kind))
		}
	}
	m.rng.Shuffle(len(l), func(i, k int) { l[i], l[k] = l[k], l[i] })
	if m.rng.Intn(m.wild) == 0 {
		l[m.rng.Intn(len(l))] = l[m.rng.Intn(len(l))]
	}
	return strings.Join(l, "\n")
}

func TestMade(t *testing.T) {
	all := readSentences()
	rng := rand.New(rand.NewSource(11))
	faulty, whole := 0, 0
	for i := range 20000 {
		m := maker{rng: rng, all: all, wild: []int{60, 200, 600}[i%3]}
		text := m.statute()
		if len(text) > api.MaxText {
			continue
		}
		if checkModel(t, all, text) {
			faulty++
		} else {
			whole++
		}
	}
	if faulty < 3000 || whole < 3000 {
		t.Errorf("%d with faults, %d without", faulty, whole)
	}
}

// TestMadeOf holds Of against the model in trees whose declarations often have one name.
func TestMadeOf(t *testing.T) {
	all := readSentences()
	rng := rand.New(rand.NewSource(39))
	faulty, whole := 0, 0
	for i := range 20000 {
		m := maker{rng: rng, all: all, wild: []int{40, 200, 600}[i%3]}
		n := parsed(t, m.statute())
		for j := range n.Kids {
			if d := &n.Kids[j]; rng.Intn(4) == 0 {
				d.Name = n.Kids[rng.Intn(len(n.Kids))].Name
			}
		}
		e := expression(t, m.expr(m.kind(), rng.Intn(4)))
		with := []Field{}
		for range rng.Intn(3) {
			with = append(with, Field{n.Kids[rng.Intn(len(n.Kids))].Name, api.Kind(rng.Intn(6) + 1)})
		}
		want := model{all: all, n: n, around: slices.Clone(with)}
		if k, is := Of(n, e, with...), want.expr(e); len(want.faults) > 0 && k != api.None || len(want.faults) == 0 && modelKinds[k] != is {
			t.Fatalf("P11.2: Of(%s) in %q with %v: %d, want %q, %v", syn.Show(e), syn.Show(n), with, k, is, want.faults)
		}
		if len(want.faults) > 0 {
			faulty++
		} else {
			whole++
		}
	}
	if faulty < 3000 || whole < 3000 {
		t.Errorf("%d with faults, %d without", faulty, whole)
	}
}
