package typ

import (
	"slices"

	"publican/api"
	"publican/syn"
)

// The checks answer the place of their first fault and false, or true.

func checkDecls(n syn.Node) (int, bool) {
	if n.Op != "statute" {
		return n.At, false
	}
	seen := map[string]int{}
	for i, d := range n.Kids {
		if !isDecl(d) || seen[d.Name] > 0 || i >= api.MaxNames {
			return d.At, false
		}
		seen[d.Name]++
	}
	return 0, true
}

// isDecl holds of each declaration that syn tells: of what else is handed in, a later layer shall not stumble.
func isDecl(d syn.Node) bool {
	if d.Kind < api.Bool || d.Kind > api.List {
		return false
	}
	switch d.Op {
	case "input":
		return len(d.Kids) == 0
	case "rule":
		return len(d.Kids) == 1
	case "table":
		return len(d.Kids) > 0
	}
	return false
}

func checkTables(n syn.Node) (int, bool) {
	for _, d := range n.Kids {
		if d.Op != "table" {
			continue
		}
		if !isKey(d.N) || d.Kind == api.List {
			return d.At, false
		}
		if at, ok := checkRows(d); !ok {
			return at, false
		}
	}
	return 0, true
}

func isKey(kind int64) bool {
	return kind == int64(api.Count) || kind == int64(api.Money) || kind == int64(api.Date)
}

func checkRows(t syn.Node) (int, bool) {
	kinds := []api.Kind{api.Kind(t.N), t.Kind}
	last := len(t.Kids) - 1
	for i, row := range t.Kids {
		want := kinds
		if i == last {
			want = kinds[1:] // it has no key
		}
		if row.Op != "row" || !slices.EqualFunc(row.Kids, want, isLit) {
			return row.At, false
		}
		if i > 0 && i < last && row.Kids[0].N <= t.Kids[i-1].Kids[0].N {
			return row.At, false
		}
	}
	return 0, true
}

func isLit(e syn.Node, kind api.Kind) bool {
	return e.Op == "lit" && e.Kind == kind && len(e.Kids) == 0
}

func checkRules(n syn.Node) (int, bool) {
	s := newScope(n, nil)
	for _, d := range n.Kids {
		if d.Op != "rule" {
			continue
		}
		if d.Kind == api.List {
			return d.At, false
		}
		switch s.kind(d.Kids[0]) {
		case d.Kind:
		case api.None:
			return s.fault, false
		default:
			return d.At, false
		}
	}
	return 0, true
}
