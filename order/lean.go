package order

import (
	"slices"

	"publican/syn"
	"publican/typ"
)

// finder gathers the rules that an expression names, as often as it does.
type finder struct {
	rules map[string]int // how many rules have the name
	sums  map[string]int // how many of the sums around have it: there it is no rule's
	found []string
}

func newFinder(n syn.Node) *finder {
	f := &finder{rules: map[string]int{}, sums: map[string]int{}}
	for _, r := range typ.Rules(n) {
		f.rules[r.Name]++
	}
	return f
}

func (f *finder) look(e syn.Node) {
	if e.Op == "name" && f.rules[e.Name] > 0 && f.sums[e.Name] == 0 {
		f.found = append(f.found, e.Name)
	}
	for i, kid := range e.Kids {
		inSum := e.Op == "sum" && i > 0 // the list is told ahead of the name
		if inSum {
			f.sums[e.Name]++
		}
		f.look(kid)
		if inSum {
			f.sums[e.Name]--
		}
	}
}

// lean is a rule and those it names.
type lean struct {
	rule string
	on   []string
}

// leans has the rules in the text's order.
func leans(n syn.Node) []lean {
	var l []lean
	for _, r := range typ.Rules(n) {
		l = append(l, lean{r.Name, Names(n, r.Name)})
	}
	return l
}

// isFree holds of a rule that names none of those that wait.
func (l lean) isFree(waiting []lean) bool {
	return !slices.ContainsFunc(waiting, func(w lean) bool { return slices.Contains(l.on, w.rule) })
}
