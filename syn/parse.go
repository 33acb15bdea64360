package syn

import (
	"publican/api"
	"publican/lex"
)

// The kinds of lex's words that are not known by their texts alone.
const (
	wordName  = 1
	wordCount = 3
	wordMoney = 4
	wordRate  = 5
	wordDay   = 6
)

const (
	maxDeep = 40
	maxRows = 32
)

// What a form may ask for beside words: no word of a statute has a great letter.
const (
	aName  = "NAME"
	aKind  = "KIND"
	aLit   = "LIT"
	anExpr = "EXPR"
)

// parser reads words, the next one at next. It never leaves a word that fits nothing, so that next is the fault's place.
// A limit that is passed is noted and reading goes on: a fault of form, wherever it stands, is told ahead of it.
type parser struct {
	words  []lex.Word
	next   int
	over   bool
	overAt int
}

func (p *parser) is(text string) bool { return p.words[p.next].Text == text }

// pass notes where a limit is passed for the first time.
func (p *parser) pass() {
	if !p.over {
		p.over, p.overAt = true, p.words[p.next].At
	}
}

func (p *parser) statute() (Node, bool) {
	n := Node{Op: "statute", At: p.words[0].At}
	for p.next < len(p.words)-1 {
		kid, ok := p.decl()
		if !ok {
			return Node{}, false
		}
		n.Kids = append(n.Kids, kid)
	}
	return n, true
}

func (p *parser) decl() (Node, bool) {
	switch p.words[p.next].Text {
	case "input":
		return p.form("input", 0, "input", aName, aKind, ";")
	case "rule":
		return p.form("rule", 0, "rule", aName, aKind, "=", anExpr, ";")
	case "table":
		return p.table()
	}
	return Node{}, false
}

func (p *parser) table() (Node, bool) {
	n, ok := p.form("table", 0, "table", aName, aKind, aKind, "{")
	for last := false; ok && !last; {
		if len(n.Kids) >= maxRows {
			p.pass()
		}
		last = p.is("else")
		var row Node
		row, ok = p.row(last)
		n.Kids = append(n.Kids, row)
	}
	if !ok || !p.is("}") {
		return Node{}, false
	}
	p.next++
	return n, true
}

func (p *parser) row(last bool) (Node, bool) {
	if last {
		return p.form("row", 0, "else", aLit)
	}
	return p.form("row", 0, aLit, ":", aLit, ",")
}

// form reads a node that is one part behind the other.
func (p *parser) form(op string, deep int, parts ...string) (Node, bool) {
	n := Node{Op: op, At: p.words[p.next].At}
	for _, part := range parts {
		ok := false
		switch part {
		case aName:
			n.Name, ok = p.name()
		case aKind:
			// Of a table's two kinds the first is its key's.
			n.N = int64(n.Kind)
			n.Kind, ok = p.kind()
		case aLit, anExpr:
			var kid Node
			kid, ok = p.kid(part, deep+1)
			n.Kids = append(n.Kids, kid)
		default:
			if ok = p.is(part); ok {
				p.next++
			}
		}
		if !ok {
			return Node{}, false
		}
	}
	return n, true
}

func (p *parser) kid(part string, deep int) (Node, bool) {
	if part == aLit {
		return p.lit()
	}
	return p.expr(deep)
}

func (p *parser) name() (string, bool) {
	w := p.words[p.next]
	if w.Kind != wordName {
		return "", false
	}
	p.next++
	return w.Text, true
}

func (p *parser) kind() (api.Kind, bool) {
	for k := api.Bool; k <= api.List; k++ {
		if p.is(kindName(k)) {
			p.next++
			return k, true
		}
	}
	return api.None, false
}

func (p *parser) lit() (Node, bool) {
	w := p.words[p.next]
	n := Node{Op: "lit", N: w.N, At: w.At}
	switch {
	case w.Kind == wordCount:
		n.Kind = api.Count
	case w.Kind == wordMoney:
		n.Kind = api.Money
	case w.Kind == wordRate:
		n.Kind = api.Rate
	case w.Kind == wordDay:
		n.Kind = api.Date
	case w.Text == "true":
		n.Kind, n.N = api.Bool, 1
	case w.Text == "false":
		n.Kind = api.Bool
	default:
		return Node{}, false
	}
	p.next++
	return n, true
}
