package emit

import (
	"publican/api"
	"publican/syn"
)

// compare holds two values against each other, and tells whether it is turned, as either does.
func (m *maker) compare(e syn.Node) (isTurned bool) {
	kind, first := m.either(e.Kids[0])
	_, second := m.either(e.Kids[1])
	m.add(instruction(e.Op), int(kind))
	return isOpposite(e.Op) != (first != second) // two bools that are both turned are as alike as they were
}

// isOpposite holds of operators that have no instruction but their opposite's.
func isOpposite(op string) bool { return op == ">" || op == ">=" || op == "!=" }

// connect works an and or or out: the second kid just if it matters. It tells whether that is turned, as either does.
func (m *maker) connect(e syn.Node) (isTurned bool) {
	isAnd := e.Op == "and"
	isEnough := m.branch(e.Kids[0], isAnd, nil)
	_, isTurned = m.either(e.Kids[1])
	toEnd := m.jump()
	m.lead(isEnough...)
	decided := int64(0)
	if isAnd == isTurned {
		decided = 1
	}
	m.lit(api.Bool, decided)
	m.lead(toEnd)
	return isTurned
}

// choose works an if out.
func (m *maker) choose(e syn.Node) api.Kind {
	test, one, other := e.Kids[0], e.Kids[1], e.Kids[2]
	wanted := !endsTurned(test)
	if !wanted {
		one, other = other, one
	}
	toOther := m.branch(test, wanted, nil)
	m.expr(one)
	toEnd := m.jump()
	m.lead(toOther...)
	kind := m.expr(other)
	m.lead(toEnd)
	return kind
}

// endsTurned tells whether what a test asks last is turned: then it is shorter to go on where the test doesn't hold.
func endsTurned(e syn.Node) bool {
	switch e.Op {
	case "not":
		return !endsTurned(e.Kids[0])
	case "and", "or":
		return endsTurned(e.Kids[1])
	}
	return isOpposite(e.Op)
}

// branch makes a test: where it comes out as it is wanted, it goes on behind; else from a place that is told, behind those of away.
func (m *maker) branch(e syn.Node, wanted bool, away []int) []int {
	switch e.Op {
	case "not":
		return m.branch(e.Kids[0], !wanted, away)
	case "and", "or":
		if wanted == (e.Op == "and") { // both kids must be so
			away = m.branch(e.Kids[0], wanted, away)
			return m.branch(e.Kids[1], wanted, away)
		}
		isEnough := m.branch(e.Kids[0], !wanted, nil)
		away = m.branch(e.Kids[1], wanted, away)
		m.lead(isEnough...)
		return away
	}
	_, isTurned := m.either(e)
	at := m.add("unless")
	if isTurned != wanted {
		return append(away, at)
	}
	away = append(away, m.jump())
	m.lead(at)
	return away
}
