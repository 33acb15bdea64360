package typ

import (
	"publican/api"
	"publican/syn"
)

// scope has what a name may stand for, and where the first fault was found.
type scope struct {
	values map[string]api.Kind // of inputs and rules
	tables map[string]syn.Node // apart, since a tree with a fault may have a table and an input of one name
	decls  map[string]int      // how many declarations have the name, of whatever form
	beside map[string]api.Kind
	sums   map[string]int // how many of the sums around have the name
	fault  int
}

func newScope(n syn.Node, with []Field) *scope {
	s := &scope{
		values: map[string]api.Kind{}, tables: map[string]syn.Node{}, decls: map[string]int{},
		beside: map[string]api.Kind{}, sums: map[string]int{},
	}
	for _, d := range n.Kids {
		s.declare(d)
	}
	for _, f := range with {
		s.beside[f.Name] = f.Kind // the last one is the innermost
	}
	return s
}

// declare keeps the first of those that are alike in name and use.
func (s *scope) declare(d syn.Node) {
	s.decls[d.Name]++
	_, value := s.values[d.Name]
	_, table := s.tables[d.Name]
	switch {
	case d.Op == "table" && !table:
		s.tables[d.Name] = d
	case (d.Op == "input" || d.Op == "rule") && !value:
		s.values[d.Name] = d.Kind
	}
}

// kind tells an expression's kind; None, if it has a fault: then s.fault is where.
func (s *scope) kind(e syn.Node) api.Kind {
	kids := make([]api.Kind, len(e.Kids))
	for i, kid := range e.Kids {
		inSum := e.Op == "sum" && i > 0
		if inSum {
			s.sums[e.Name]++
		}
		kids[i] = s.kind(kid)
		if inSum {
			s.sums[e.Name]--
		}
		if kids[i] == api.None {
			return api.None
		}
	}
	k := s.node(e, kids)
	if k == api.None {
		s.fault = e.At
	}
	return k
}

// node tells the kind of an expression whose kids are of these kinds.
func (s *scope) node(e syn.Node, kids []api.Kind) api.Kind {
	switch len(kids) {
	case 0:
		return s.ofNone(e)
	case 1:
		return s.ofOne(e, kids[0])
	case 2:
		if e.Op == "sum" {
			return s.ofSum(e.Name, kids[0], kids[1])
		}
		return ofTwo(e.Op, kids[0], kids[1])
	case 3:
		if e.Op == "if" && kids[0] == api.Bool && kids[1] == kids[2] && kids[1] != api.List {
			return kids[1]
		}
	}
	return api.None
}

func (s *scope) ofNone(e syn.Node) api.Kind {
	switch {
	case e.Op == "lit" && e.Kind >= api.Bool && e.Kind <= api.Date:
		return e.Kind
	case e.Op == "name":
		return s.named(e.Name)
	}
	return api.None
}

func (s *scope) named(name string) api.Kind {
	if s.sums[name] > 0 {
		return api.Money
	}
	if k, ok := s.beside[name]; ok {
		return k
	}
	return s.values[name] // None, if there is none
}

func (s *scope) ofOne(e syn.Node, k api.Kind) api.Kind {
	switch e.Op {
	case "not":
		return only(k == api.Bool, api.Bool)
	case "neg":
		return only(isAmount(k), k)
	case "len":
		return only(k == api.List, api.Count)
	case "at":
		t, ok := s.tables[e.Name]
		return only(ok && int64(k) == t.N, t.Kind)
	}
	return api.None
}

func (s *scope) ofSum(name string, list, each api.Kind) api.Kind {
	_, beside := s.beside[name]
	taken := s.decls[name] > 0 || beside || s.sums[name] > 0
	return only(!taken && list == api.List && (each == api.Money || each == api.Count), each)
}

func ofTwo(op string, a, b api.Kind) api.Kind {
	switch op {
	case "+", "-", "*", "/":
		return reckoned(op, a, b)
	case "<", "<=", ">", ">=":
		return only(a == b && isRanked(a), api.Bool)
	case "==", "!=":
		return only(a == b && (isRanked(a) || a == api.Bool), api.Bool)
	case "and", "or":
		return only(a == b && a == api.Bool, api.Bool)
	case "min", "max":
		return only(a == b && isRanked(a), a)
	}
	return api.None
}

// reckoned tells the kind of a + b, a - b, a * b, a / b.
func reckoned(op string, a, b api.Kind) api.Kind {
	if (op == "+" || op == "-") && a == b && isAmount(a) {
		return a
	}
	if op == "*" {
		a, b = max(a, b), min(a, b) // either may stand ahead
	}
	for _, m := range mixed {
		if m.op == op && m.a == a && m.b == b {
			return m.is
		}
	}
	return api.None
}

// mixed has what may be reckoned beside sums and differences of like amounts; in a product the greater kind stands ahead.
var mixed = [...]struct {
	op       string
	a, b, is api.Kind
}{
	{"+", api.Date, api.Count, api.Date},
	{"-", api.Date, api.Date, api.Count},
	{"-", api.Date, api.Count, api.Date},
	{"*", api.Count, api.Count, api.Count},
	{"*", api.Money, api.Count, api.Money},
	{"*", api.Rate, api.Count, api.Rate},
	{"*", api.Rate, api.Money, api.Money},
	{"/", api.Count, api.Count, api.Count},
	{"/", api.Money, api.Count, api.Money},
	{"/", api.Money, api.Money, api.Rate},
}

func isAmount(k api.Kind) bool { return k == api.Count || k == api.Money || k == api.Rate }

func isRanked(k api.Kind) bool { return isAmount(k) || k == api.Date }

func only(fits bool, k api.Kind) api.Kind {
	if fits {
		return k
	}
	return api.None
}
