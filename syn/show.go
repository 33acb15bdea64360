package syn

import (
	"strconv"
	"strings"

	"publican/api"
	"publican/cal"
)

// show writes a node behind b.
func show(b []byte, n Node) []byte {
	switch n.Op {
	case "statute":
		for _, kid := range n.Kids {
			b = append(show(b, kid), '\n')
		}
		return b
	case "table":
		return showTable(b, n)
	case "lit":
		return showLit(b, n)
	}
	return fill(b, n, pattern(n))
}

// pattern tells how a node is written, with great letters for what its fields say: see fill.
func pattern(n Node) string {
	switch n.Op {
	case "input":
		return "input N K;"
	case "rule":
		return "rule N K = E;"
	case "row":
		if len(n.Kids) == 1 {
			return "else E"
		}
		return "E: E, "
	case "name":
		return "N"
	case "if":
		return "(if E then E else E)"
	case "+", "-", "*", "/", "<", "<=", ">", ">=", "==", "!=", "and", "or":
		return "(E O E)"
	case "neg":
		return "(- E)"
	case "not":
		return "(not E)"
	case "min", "max":
		return "O(E, E)"
	case "len":
		return "len(E)"
	case "at":
		return "at(N, E)"
	case "sum":
		return "sum(N in E: E)"
	}
	return ""
}

// fill writes a pattern: O is the node's Op, N its Name, K its Kind, and each E the next kid.
// Nothing is written of a node whose kids are not as many, or whose Kind is none.
func fill(b []byte, n Node, pattern string) []byte {
	if len(n.Kids) != strings.Count(pattern, "E") || strings.Contains(pattern, "K") && kindName(n.Kind) == "" {
		return b
	}
	next := 0
	for i := range len(pattern) {
		switch c := pattern[i]; c {
		case 'O':
			b = append(b, n.Op...)
		case 'N':
			b = append(b, n.Name...)
		case 'K':
			b = append(b, kindName(n.Kind)...)
		case 'E':
			b = show(b, n.Kids[next])
			next++
		default:
			b = append(b, c)
		}
	}
	return b
}

func showTable(b []byte, n Node) []byte {
	if !isTable(n) {
		return b
	}
	b = append(b, "table "+n.Name+" "+kindName(api.Kind(n.N))+" "+kindName(n.Kind)+" { "...)
	for _, row := range n.Kids {
		b = show(b, row)
	}
	return append(b, " }"...)
}

// isTable tells whether a table has its kinds, and rows of which just the last one has no key.
func isTable(n Node) bool {
	if kindName(n.Kind) == "" || kindName(api.Kind(n.N)) == "" || len(n.Kids) == 0 {
		return false
	}
	last := len(n.Kids) - 1
	for i, row := range n.Kids {
		if row.Op != "row" || i < last && len(row.Kids) != 2 || i == last && len(row.Kids) != 1 {
			return false
		}
	}
	return true
}

func showLit(b []byte, n Node) []byte {
	if len(n.Kids) > 0 {
		return b
	}
	switch n.Kind {
	case api.Bool:
		return append(b, boolText(n.N)...)
	case api.Count:
		return strconv.AppendInt(b, n.N, 10)
	case api.Money:
		return decimal(append(b, sign(n.N)+"$"...), n.N, 100)
	case api.Rate:
		return append(decimal(append(b, sign(n.N)...), n.N, 10000), '%')
	case api.Date:
		return append(b, cal.Text(int(n.N))...)
	}
	return b
}

func boolText(n int64) string {
	switch n {
	case 0:
		return "false"
	case 1:
		return "true"
	}
	return ""
}

func sign(n int64) string {
	if n < 0 {
		return "-"
	}
	return ""
}

// decimal writes a number without its sign, in units of that many.
func decimal(b []byte, n int64, unit uint64) []byte {
	u := uint64(n)
	if n < 0 {
		u = -u
	}
	b = strconv.AppendUint(b, u/unit, 10)
	// The unit ahead keeps the noughts behind the dot; its own digit becomes the dot.
	at := len(b)
	b = strconv.AppendUint(b, unit+u%unit, 10)
	b[at] = '.'
	return b
}
