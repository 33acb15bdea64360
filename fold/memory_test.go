package fold

import (
	"testing"

	"publican/syn"
)

// roomy is the same tree, its lists with spare room that is filled with marks; a node without kids has such a list, too.
func roomy(n syn.Node) syn.Node {
	var l []syn.Node
	for _, kid := range n.Kids {
		l = append(l, roomy(kid))
	}
	mark := syn.Node{Op: "mark"}
	n.Kids = append(l, mark, mark, mark)[:len(l)]
	return n
}

// lists gathers the first place of each list of a tree, spare room taken for list too, and how often it was met.
func lists(n syn.Node, met map[*syn.Node]int) {
	if cap(n.Kids) == 0 {
		return
	}
	l := n.Kids[:cap(n.Kids)]
	for i := range l {
		met[&l[i]]++
		lists(l[i], met)
	}
}

// spoil writes over all that a tree has room for.
func spoil(n syn.Node) {
	l := n.Kids[:cap(n.Kids)]
	for i := range l {
		spoil(l[i])
		l[i] = syn.Node{Op: "spoilt"}
	}
}

// intact holds of a tree of roomy's whose marks are all there.
func intact(n syn.Node) bool {
	for i, kid := range n.Kids[:cap(n.Kids)] {
		if i < len(n.Kids) && !intact(kid) || i >= len(n.Kids) && i < len(n.Kids)+3 && kid.Op != "mark" {
			return false
		}
	}
	return true
}

// TestMemory checks R4: what is handed in stays as it is, and what is answered is its own.
func TestMemory(t *testing.T) {
	const text = `input a money; table t count money { 1: $1, else $2 } input l moneys; rule b bool = true and (if false then true else a == $1); rule c money = if true then at(t, 1 + 1) else a;
		rule d money = sum(x in l: x + (if a < $1 then $1 * 2 else - $1)); rule e count = 1 / 0 + len(l); rule f bool = false and b or not (false or b); rule g count = 5;`
	for range 2 {
		n := roomy(parsed(t, text))
		trees := map[string]func() syn.Node{"Fold": func() syn.Node { return Fold(n) }, "Expr of all": func() syn.Node { return Expr(n) }}
		for _, d := range n.Kids {
			for _, e := range d.Kids {
				trees["Expr of "+d.Name] = func() syn.Node { return Expr(e) }
			}
		}
		given := map[*syn.Node]int{}
		lists(n, given)
		for what, call := range trees {
			f, again := call(), call()
			met := map[*syn.Node]int{}
			lists(f, met)
			for p, many := range met {
				if given[p] > 0 || many > 1 || p.Op == "mark" || p.Op == "" {
					t.Errorf("R4: %s shares a list, or has spare room that is not its own: %v", what, *p)
				}
			}
			before := syn.Show(again)
			spoil(f)
			if syn.Show(again) != before || !alike(n, parsed(t, text)) || !intact(n) {
				t.Errorf("R4: %s shares memory", what)
			}
		}
		Size(n)
		if !alike(n, parsed(t, text)) || !intact(n) {
			t.Errorf("R4: Size changed the tree")
		}
	}
}

// TestSharedKids checks that lists which are one in what is handed in are several in what is answered.
func TestSharedKids(t *testing.T) {
	kids := []syn.Node{name(1, "x"), lit(2, 2, 1)}
	sum := tree(3, "+", kids...)
	sum.Kids = kids
	shared := []syn.Node{sum, sum}
	rule := syn.Node{Op: "rule", Name: "r", Kind: 2, Kids: shared[:1]}
	for i, f := range []syn.Node{
		Expr(syn.Node{Op: "-", Kids: shared}), Expr(tree(4, "if", name(5, "b"), sum, sum)), Fold(tree(0, "statute", rule, rule)),
		Fold(tree(0, "statute", syn.Node{Op: "table", Kids: shared}, syn.Node{Op: "table", Kids: shared})),
	} {
		met := map[*syn.Node]int{}
		lists(f, met)
		for _, many := range met {
			if many > 1 {
				t.Errorf("R4: tree %d has a list twice", i)
			}
		}
	}
}
