package order

import (
	"publican/api"
	"publican/syn"
)

const maxSteps = 1 << 40

// expressions has those of the rules, in a statute without a fault.
func expressions(n syn.Node) []syn.Node {
	var l []syn.Node
	for _, d := range n.Kids {
		if d.Op == "rule" {
			l = append(l, d.Kids[0])
		}
	}
	return l
}

// steps tells an expression's steps, or maxSteps + 1 where they are more: so no number here gets too great.
func steps(e syn.Node) int64 {
	kids := make([]int64, len(e.Kids))
	for i, kid := range e.Kids {
		kids[i] = steps(kid)
	}
	var s int64
	switch e.Op {
	case "if":
		s = 3 + kids[0] + max(kids[1], kids[2])
	case "sum":
		s = 4 + kids[0] + api.MaxList*(4+kids[1])
	default:
		s = 1
		for _, k := range kids {
			s += k
		}
	}
	return min(s, maxSteps+1)
}

func deep(e syn.Node) int {
	most := 1
	for i, kid := range e.Kids {
		most = max(most, deep(kid)+below(e.Op, i))
	}
	return most
}

// below tells how much an expression keeps beside its kid i while that one is worked out.
func below(op string, i int) int {
	switch op {
	case "if":
		return 0 // its first kid is gone by then
	case "sum":
		return 3 * i
	}
	return i
}
