package syn

// Levels of operators, the loosest at 0.
const (
	levelOr = iota
	levelAnd
	levelCompare // its operators do not follow one another
	levelAdd
	levelMul
	levels
)

// expr reads an expression that is so deep.
func (p *parser) expr(deep int) (Node, bool) {
	if deep > maxDeep {
		p.pass()
	}
	if p.is("if") {
		return p.form("if", deep, "if", anExpr, "then", anExpr, "else", anExpr)
	}
	return p.binary(levelOr, deep)
}

// level is -1 of a word that is no operator.
func level(text string) int {
	switch text {
	case "or":
		return levelOr
	case "and":
		return levelAnd
	case "<", "<=", ">", ">=", "==", "!=":
		return levelCompare
	case "+", "-":
		return levelAdd
	case "*", "/":
		return levelMul
	}
	return -1
}

// binary reads operators of a level, from the left, and between them what binds tighter.
func (p *parser) binary(at, deep int) (Node, bool) {
	if at == levels {
		return p.unary(deep)
	}
	n, ok := p.binary(at+1, deep)
	for ok && level(p.words[p.next].Text) == at {
		w := p.words[p.next]
		p.next++
		var right Node
		right, ok = p.binary(at+1, deep)
		n = Node{Op: w.Text, At: w.At, Kids: []Node{n, right}}
		if at == levelCompare {
			break
		}
	}
	return n, ok
}

func (p *parser) unary(deep int) (Node, bool) {
	switch {
	case p.is("-"):
		return p.turned("neg", deep)
	case p.is("not"):
		return p.turned("not", deep)
	}
	return p.prim(deep)
}

// turned reads the word that turns, and what it turns, which is one deeper.
func (p *parser) turned(op string, deep int) (Node, bool) {
	at := p.words[p.next].At
	p.next++
	if deep+1 > maxDeep {
		p.pass()
	}
	kid, ok := p.unary(deep + 1)
	return Node{Op: op, At: at, Kids: []Node{kid}}, ok
}

func (p *parser) prim(deep int) (Node, bool) {
	w := p.words[p.next]
	if w.Kind == wordName {
		p.next++
		return Node{Op: "name", Name: w.Text, At: w.At}, true
	}
	switch w.Text {
	case "(":
		n, ok := p.form("", deep, "(", anExpr, ")")
		if !ok {
			return Node{}, false
		}
		return n.Kids[0], true
	case "min", "max":
		return p.form(w.Text, deep, w.Text, "(", anExpr, ",", anExpr, ")")
	case "len":
		return p.form("len", deep, "len", "(", anExpr, ")")
	case "at":
		return p.form("at", deep, "at", "(", aName, ",", anExpr, ")")
	case "sum":
		return p.form("sum", deep, "sum", "(", aName, "in", anExpr, ":", anExpr, ")")
	}
	return p.lit()
}
