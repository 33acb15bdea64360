package syn

import (
	"math/rand"
	"reflect"
	"strconv"
	"strings"
	"testing"

	"publican/api"
	"publican/cal"
	"publican/lex"
)

// grammar is the chapter's, word by word.
const grammar = `
    statute = { decl } .
    decl    = "input" NAME kind ";" | "rule" NAME kind "=" expr ";" | "table" NAME kind kind "{" { lit ":" lit "," } "else" lit "}" .
    kind    = "bool" | "count" | "money" | "rate" | "date" | "moneys" .
    expr    = "if" expr "then" expr "else" expr | or .
    or      = and { "or" and } .          and = cmp { "and" cmp } .
    cmp     = add [ ( "<" | "<=" | ">" | ">=" | "==" | "!=" ) add ] .
    add     = mul { ( "+" | "-" ) mul } . mul = un { ( "*" | "/" ) un } .
    un      = ( "-" | "not" ) un | prim .
    prim    = lit | NAME | "(" expr ")" | ( "min" | "max" ) "(" expr "," expr ")" | "len" "(" expr ")"
            | "at" "(" NAME "," expr ")" | "sum" "(" NAME "in" expr ":" expr ")" .
    lit     = COUNT | MONEY | RATE | DAY | "true" | "false" .
`

// rules has the grammar with plain rows alone: what is asked for in brackets has a name of its own.
type rules struct {
	rows map[string][][]string
	made int
	in   []string
}

func readGrammar() *rules {
	g := &rules{rows: map[string][][]string{}, in: strings.Fields(grammar)}
	for len(g.in) > 0 {
		name := g.take()
		g.take()
		g.rows[name] = g.choice()
		g.take()
	}
	return g
}

func (g *rules) take() string {
	s := g.in[0]
	g.in = g.in[1:]
	return s
}

func (g *rules) fresh(rows ...[]string) string {
	g.made++
	name := "made " + strconv.Itoa(g.made)
	g.rows[name] = rows
	return name
}

func (g *rules) choice() [][]string {
	all := [][]string{{}}
	for {
		switch s := g.in[0]; s {
		case ".", ")", "]", "}":
			return all
		case "|":
			g.take()
			all = append(all, []string{})
		default:
			g.take()
			switch s {
			case "(":
				s = g.fresh(g.choice()...)
				g.take()
			case "[":
				s = g.fresh(append(g.choice(), []string{})...)
				g.take()
			case "{":
				s = g.fresh(append(g.choice(), []string{})...)
				for i, row := range g.rows[s] {
					if len(row) > 0 {
						g.rows[s][i] = append(row, s)
					}
				}
				g.take()
			}
			all[len(all)-1] = append(all[len(all)-1], s)
		}
	}
}

// item is a row of the grammar that is read up to dot, begun at a word.
type item struct {
	name     string
	row, dot int
	from     int
}

// stuck tells the first word at which no statute could go on, or -1, by going along with all rows at once.
func (g *rules) stuck(words []string) int {
	var sets [][]item
	now := []item{{"statute", 0, 0, 0}}
	for at := 0; ; at++ {
		seen := map[item]bool{}
		var set, next []item
		var add func(it item)
		add = func(it item) {
			if !seen[it] {
				seen[it] = true
				set = append(set, it)
			}
		}
		for _, it := range now {
			add(it)
		}
		// To and fro till nothing is new: rows may be empty.
		for size := -1; size != len(set); {
			size = len(set)
			for i := 0; i < len(set); i++ {
				it := set[i]
				row := g.rows[it.name][it.row]
				if it.dot < len(row) {
					for r := range g.rows[row[it.dot]] {
						add(item{row[it.dot], r, 0, at})
					}
					continue
				}
				from := set
				if it.from < at {
					from = sets[it.from]
				}
				for _, up := range from {
					if r := g.rows[up.name][up.row]; up.dot < len(r) && r[up.dot] == it.name {
						add(item{up.name, up.row, up.dot + 1, up.from})
					}
				}
			}
		}
		sets = append(sets, set)
		if at == len(words) {
			for _, it := range set {
				if it.name == "statute" && it.dot == len(g.rows[it.name][it.row]) && it.from == 0 {
					return -1
				}
			}
			return at
		}
		for _, it := range set {
			if r := g.rows[it.name][it.row]; it.dot < len(r) && r[it.dot] == words[at] {
				next = append(next, item{it.name, it.row, it.dot + 1, it.from})
			}
		}
		if len(next) == 0 {
			return at
		}
		now = next
	}
}

// symbol tells how the grammar names a word.
func symbol(w lex.Word) string {
	switch w.Kind {
	case 1:
		return "NAME"
	case 3:
		return "COUNT"
	case 4:
		return "MONEY"
	case 5:
		return "RATE"
	case 6:
		return "DAY"
	}
	return strconv.Quote(w.Text)
}

// checkForm holds a text, if it has no lex's error and no limit is near, against the grammar; it tells whether it is a statute.
func checkForm(t *testing.T, g *rules, text string) bool {
	t.Helper()
	words, _, e := lex.Cut(text)
	if e != api.OK {
		return false
	}
	var symbols []string
	for _, w := range words[:len(words)-1] {
		symbols = append(symbols, symbol(w))
	}
	where := g.stuck(symbols)
	n, at, e := Parse(text)
	if where >= 0 {
		if e != api.ESYNTAX || at != words[where].At || !reflect.DeepEqual(n, Node{}) {
			t.Fatalf("P10.1: Parse(%q): %v, %d, %v, want ESYNTAX at %d", text, n, at, e, words[where].At)
		}
		return false
	}
	if e != api.OK || at != 0 {
		t.Fatalf("P10.1: Parse(%q): %v, %d, want a statute", text, at, e)
	}
	if m, _, e := Parse(Show(n)); e != api.OK || !Same(m, n) {
		t.Fatalf("P10.2: %q, written %q: %v", text, Show(n), e)
	}
	return true
}

// TestGrammar checks random rows of words, and statutes with a word changed, against the grammar.
func TestGrammar(t *testing.T) {
	g := readGrammar()
	pieces := strings.Fields("input rule table bool count money rate date moneys if then else and or not min max sum in len at true false ( ) { } [ ] , ; : = + - * / < <= > >= == != a b 1 $2 3% 2024-01-01")
	rng := rand.New(rand.NewSource(10))
	good := 0
	for range 4000 {
		m := maker{rng: rng}
		m.statute(3)
		words, _, _ := lex.Cut(m.text)
		var texts []string
		for _, w := range words[:len(words)-1] {
			texts = append(texts, w.Text)
		}
		if len(texts) == 0 || len(texts) > 60 {
			continue
		}
		if !checkForm(t, g, strings.Join(texts, " ")) {
			t.Fatalf("the model refuses %q", m.text)
		}
		for range 6 {
			i := rng.Intn(len(texts))
			old := texts[i]
			texts[i] = pieces[rng.Intn(len(pieces))]
			switch rng.Intn(4) {
			case 0:
				texts[i] = ""
			case 1:
				texts[i] = old + " " + texts[i]
			}
			if checkForm(t, g, strings.Join(texts, " ")) {
				good++
			}
			texts[i] = old
		}
	}
	if good < 300 {
		t.Errorf("only %d changed texts were good", good)
	}
}

// TestGrammarShort goes through every row of a few words in an expression's place.
func TestGrammarShort(t *testing.T) {
	g := readGrammar()
	pieces := strings.Fields("a 1 ( ) - not * < and or if then else")
	var walk func(text string, left int)
	walk = func(text string, left int) {
		checkForm(t, g, text+" ;")
		for i := 0; i < len(pieces) && left > 0; i++ {
			walk(text+" "+pieces[i], left-1)
		}
	}
	walk("rule r count =", 4)
}

// maker makes a statute's text and the tree it must become, going down the grammar, with the first place where it is too deep.
type maker struct {
	rng    *rand.Rand
	text   string
	over   bool
	overAt int
}

// word writes a word, with anything that may stand ahead of it, and tells where it stands.
func (m *maker) word(s string) int {
	between := []string{" ", "\n", "\t", "  ", "\r\n", " # a remark; (\n", " "}
	if m.text == "" || m.rng.Intn(2) == 0 && !touches(m.text[len(m.text)-1], s[0]) {
		between = []string{""}
	}
	m.text += between[m.rng.Intn(len(between))]
	m.text += s
	return len(m.text) - len(s)
}

// touches tells whether two bytes might be of one word (or not be read one by one) side by side.
func touches(a, b byte) bool {
	long := func(c byte) bool {
		return c == '_' || c == '$' || c == '%' || c >= 'a' && c <= 'z' || c >= '0' && c <= '9'
	}
	return long(a) && long(b) || b == '=' || long(a) && b == '-' || a == '-' && long(b)
}

func (m *maker) name() string {
	return []string{"a", "b", "x1", "tax_due", "inn", "l", "maximum"}[m.rng.Intn(7)]
}

func (m *maker) kind() api.Kind {
	k := m.rng.Intn(6)
	m.word([]string{"bool", "count", "money", "rate", "date", "moneys"}[k])
	return api.Kind(k + 1)
}

func (m *maker) lit() Node {
	n := Node{Op: "lit"}
	s := ""
	switch m.rng.Intn(5) {
	case 0:
		n.Kind, n.N = api.Bool, int64(m.rng.Intn(2))
		s = []string{"false", "true"}[n.N]
	case 1:
		n.Kind, n.N = api.Count, m.rng.Int63n(1<<uint(m.rng.Intn(53)))
		s = strconv.FormatInt(n.N, 10)
	case 2:
		n.Kind, n.N = api.Money, m.rng.Int63n(1<<uint(m.rng.Intn(53)))
		cents := strconv.FormatInt(100+n.N%100, 10)[1:]
		s = "$" + strconv.FormatInt(n.N/100, 10) + "." + cents
		if cents == "00" {
			s = s[:len(s)-3]
		}
	case 3:
		n.Kind, n.N = api.Rate, m.rng.Int63n(1000000000001)
		if m.rng.Intn(2) == 0 {
			n.N = m.rng.Int63n(20000)
		}
		part := strings.TrimRight(strconv.FormatInt(10000+n.N%10000, 10)[1:], "0")
		s = strconv.FormatInt(n.N/10000, 10)
		if part != "" {
			s += "." + part
		}
		s += "%"
	case 4:
		day := m.rng.Intn(api.MaxDay + 1)
		n.Kind, n.N, s = api.Date, int64(day), cal.Text(day)
	}
	n.At = m.word(s)
	return n
}

func (m *maker) statute(size int) Node {
	n := Node{Op: "statute"}
	for range m.rng.Intn(size + 1) {
		n.Kids = append(n.Kids, m.decl())
	}
	n.At = len(m.text)
	if len(n.Kids) > 0 {
		n.At = n.Kids[0].At
	}
	return n
}

func (m *maker) decl() Node {
	n := Node{Name: m.name()}
	switch m.rng.Intn(5) {
	case 0:
		n.Op, n.At = "input", m.word("input")
		m.word(n.Name)
		n.Kind = m.kind()
		m.word(";")
	case 1:
		n.Op, n.At = "table", m.word("table")
		m.word(n.Name)
		n.N = int64(m.kind())
		n.Kind = m.kind()
		m.word("{")
		for range m.rng.Intn(4) {
			row := Node{Op: "row", Kids: []Node{m.lit()}}
			row.At = row.Kids[0].At
			m.word(":")
			row.Kids = append(row.Kids, m.lit())
			m.word(",")
			n.Kids = append(n.Kids, row)
		}
		row := Node{Op: "row", At: m.word("else")}
		row.Kids = []Node{m.lit()}
		n.Kids = append(n.Kids, row)
		m.word("}")
	default:
		n.Op, n.At = "rule", m.word("rule")
		m.word(n.Name)
		n.Kind = m.kind()
		m.word("=")
		n.Kids = []Node{m.expr(1, 1+m.rng.Intn(5))}
		m.word(";")
	}
	return n
}

// deeper notes, once what was begun there has been written, whether it is too deep.
func (m *maker) deeper(deep, begun int) {
	if deep <= 40 {
		return
	}
	if first := m.firstWord(begun); !m.over || first < m.overAt {
		m.over, m.overAt = true, first
	}
}

// firstWord tells where the next word behind at stands, as lex reads it.
func (m *maker) firstWord(at int) int {
	words, _, e := lex.Cut(m.text)
	if e != api.OK {
		panic("the model's text has a fault: " + m.text)
	}
	for _, w := range words {
		if w.At >= at {
			return w.At
		}
	}
	return at
}

func (m *maker) expr(deep, size int) Node {
	begun := len(m.text)
	var n Node
	if size > 1 && m.rng.Intn(5) == 0 {
		n = Node{Op: "if", At: m.word("if")}
		n.Kids = append(n.Kids, m.expr(deep+1, size-1))
		m.word("then")
		n.Kids = append(n.Kids, m.expr(deep+1, size-2))
		m.word("else")
		n.Kids = append(n.Kids, m.expr(deep+1, size-1))
	} else {
		n = m.row(0, deep, size)
	}
	m.deeper(deep, begun)
	return n
}

var modelLevels = [][]string{{"or"}, {"and"}, {"<", "<=", ">", ">=", "==", "!="}, {"+", "-"}, {"*", "/"}}

func (m *maker) row(level, deep, size int) Node {
	if level == len(modelLevels) {
		return m.un(deep, size)
	}
	n := m.row(level+1, deep, size)
	for size > 1 && m.rng.Intn(8) == 0 {
		op := modelLevels[level][m.rng.Intn(len(modelLevels[level]))]
		at := m.word(op)
		n = Node{Op: op, At: at, Kids: []Node{n, m.row(level+1, deep, size-1)}}
		if level == 2 {
			break
		}
	}
	return n
}

func (m *maker) un(deep, size int) Node {
	if size < 2 || m.rng.Intn(4) > 0 {
		return m.prim(deep, size)
	}
	n := Node{Op: "neg"}
	word := "-"
	if m.rng.Intn(2) == 0 {
		n.Op, word = "not", "not"
	}
	n.At = m.word(word)
	begun := len(m.text)
	n.Kids = []Node{m.un(deep+1, size-1)}
	m.deeper(deep+1, begun)
	return n
}

func (m *maker) prim(deep, size int) Node {
	if size < 2 {
		if m.rng.Intn(2) == 0 {
			return m.lit()
		}
		s := m.name()
		return Node{Op: "name", Name: s, At: m.word(s)}
	}
	n := Node{}
	switch m.rng.Intn(5) {
	case 0:
		m.word("(")
		n = m.expr(deep+1, size-1)
	case 1:
		n.Op = []string{"min", "max"}[m.rng.Intn(2)]
		n.At = m.word(n.Op)
		m.word("(")
		n.Kids = append(n.Kids, m.expr(deep+1, size-1))
		m.word(",")
		n.Kids = append(n.Kids, m.expr(deep+1, size-2))
	case 2:
		n.Op, n.At = "len", m.word("len")
		m.word("(")
		n.Kids = append(n.Kids, m.expr(deep+1, size-1))
	case 3:
		n.Op, n.Name, n.At = "at", m.name(), m.word("at")
		m.word("(")
		m.word(n.Name)
		m.word(",")
		n.Kids = append(n.Kids, m.expr(deep+1, size-1))
	case 4:
		n.Op, n.Name, n.At = "sum", m.name(), m.word("sum")
		m.word("(")
		m.word(n.Name)
		m.word("in")
		n.Kids = append(n.Kids, m.expr(deep+1, size-2))
		m.word(":")
		n.Kids = append(n.Kids, m.expr(deep+1, size-1))
	}
	m.word(")")
	return n
}

// checkMade holds a made text against its tree.
func checkMade(t *testing.T, m *maker, want Node) {
	t.Helper()
	if len(m.text) > api.MaxText {
		return
	}
	n, at, e := Parse(m.text)
	switch {
	case m.over:
		if e != api.ELIMIT || at != m.overAt || !reflect.DeepEqual(n, Node{}) {
			t.Fatalf("P10.1: Parse(%q): %v, %d, %v, want ELIMIT at %d", m.text, n, at, e, m.overAt)
		}
	case e != api.OK || at != 0 || !reflect.DeepEqual(n, want):
		t.Fatalf("P10.1: Parse(%q): %v, %d, %v, want %v", m.text, n, at, e, want)
	default:
		back, _, e := Parse(Show(n))
		if e == api.OK && !Same(back, n) || e != api.OK && e != api.ELIMIT {
			t.Fatalf("P10.2: %q, written %q: %v", m.text, Show(n), e)
		}
	}
}

func TestMade(t *testing.T) {
	rng := rand.New(rand.NewSource(11))
	for range 15000 {
		m := maker{rng: rng}
		want := m.statute(4)
		if m.rng.Intn(2) == 0 {
			m.text += " # the end"
			if len(want.Kids) == 0 {
				want.At = len(m.text)
			}
		}
		checkMade(t, &m, want)
	}
}

// TestMadeDeep checks trees near the limit of 40.
func TestMadeDeep(t *testing.T) {
	rng := rand.New(rand.NewSource(12))
	over := 0
	for range 3000 {
		m := maker{rng: rng}
		at := m.word("rule")
		m.word("r")
		m.word("count")
		m.word("=")
		rule := Node{Op: "rule", Name: "r", Kind: api.Count, At: at}
		rule.Kids = []Node{m.chain(1, 36+rng.Intn(10))}
		m.word(";")
		checkMade(t, &m, Node{Op: "statute", At: at, Kids: []Node{rule}})
		if m.over {
			over++
		}
	}
	if over < 600 || over > 2400 {
		t.Errorf("%d of 3000 were too deep", over)
	}
}

// chain makes an expression that is nested by one path alone down to a depth, with short ones beside it.
func (m *maker) chain(deep, to int) Node {
	if deep >= to {
		return m.expr(deep, 2)
	}
	begun := len(m.text)
	n := Node{}
	switch m.rng.Intn(6) {
	case 0:
		m.word("(")
		n = m.chain(deep+1, to)
		m.word(")")
	case 1:
		n.Op, n.At = "len", m.word("len")
		m.word("(")
		n.Kids = []Node{m.chain(deep+1, to)}
		m.word(")")
	case 2:
		n.Op, n.At = "if", m.word("if")
		n.Kids = append(n.Kids, m.expr(deep+1, 1))
		m.word("then")
		n.Kids = append(n.Kids, m.chain(deep+1, to))
		m.word("else")
		n.Kids = append(n.Kids, m.expr(deep+1, 1))
	case 3:
		n.Op, n.Name, n.At = "sum", "x", m.word("sum")
		m.word("(")
		m.word("x")
		m.word("in")
		n.Kids = append(n.Kids, m.expr(deep+1, 1))
		m.word(":")
		n.Kids = append(n.Kids, m.chain(deep+1, to))
		m.word(")")
	case 4:
		left := m.row(3, deep, 1)
		n = Node{Op: "*", At: m.word("*")}
		turned := Node{Op: "not", At: m.word("not")}
		inner := len(m.text)
		m.word("(")
		turned.Kids = []Node{m.chain(deep+2, to)}
		m.word(")")
		m.deeper(deep+1, inner)
		n.Kids = []Node{left, turned}
	case 5:
		n.Op, n.At = "min", m.word("min")
		m.word("(")
		n.Kids = append(n.Kids, m.chain(deep+1, to))
		m.word(",")
		n.Kids = append(n.Kids, m.expr(deep+1, 1))
		m.word(")")
	}
	m.deeper(deep, begun)
	return n
}

// TestMemory checks R4: lists of an answer are its own, with nothing in their spare room.
func TestMemory(t *testing.T) {
	const text = "table t count bool { 1: true, 2: false, 3: true, else true } input a money; rule r count = if a + b then min(a, (b)) else sum(x in l: x);"
	n, _, _ := Parse(text)
	want := Show(n)
	var spoil func(n Node)
	spoil = func(n Node) {
		for _, kid := range n.Kids {
			spoil(kid)
		}
		for i, spare := range n.Kids[len(n.Kids):cap(n.Kids)] {
			if !reflect.DeepEqual(spare, Node{}) {
				t.Errorf("R4: spare room of %s, place %d: %v", n.Op, i, spare)
			}
		}
		all := n.Kids[:cap(n.Kids)]
		for i := range all {
			if all[i].Op == "spoilt" {
				t.Errorf("R4: %s shares its kids' memory", n.Op)
			}
			all[i] = Node{Op: "spoilt"}
		}
	}
	spoil(n)
	m, _, e := Parse(text)
	if e != api.OK || Show(m) != want {
		t.Errorf("R4: a spoilt answer is seen in the next: %v", m)
	}
	Same(m, m)
	if Show(m) != want {
		t.Errorf("R4: Show or Same changed what it was given")
	}
}

// FuzzParse holds any text against what holds of all: zero values beside errors, and P10.2.
func FuzzParse(f *testing.F) {
	f.Add("rule t money = $1 + $2;")
	f.Add("table t count money { 1: $2, else $3 }")
	f.Fuzz(func(t *testing.T, text string) {
		n, at, e := Parse(text)
		if e != api.OK {
			if !reflect.DeepEqual(n, Node{}) || at < 0 || at > len(text) {
				t.Fatalf("P10.1: Parse(%q): %v, %d, %v", text, n, at, e)
			}
			return
		}
		back, _, e := Parse(Show(n))
		if at != 0 || e == api.OK && !Same(back, n) || e != api.OK && e != api.ELIMIT {
			t.Fatalf("P10.2: %q, written %q: %d, %v", text, Show(n), at, e)
		}
	})
}
