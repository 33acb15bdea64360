package emit

import (
	"slices"

	"publican/api"
	"publican/code"
	"publican/limit"
	"publican/syn"
)

// pool has a program's constants and tables, each once.
type pool struct {
	consts []api.Value
	tables []code.Table
	places map[constant]int // in consts
	named  map[string]int   // the statute's tables, in tables
	uses   map[constant]use
	isOff  bool // some number or table is none that a program may have: syn tells no such tree
}

type constant struct {
	kind api.Kind
	n    int64
}

// use is how a statute uses a constant: how often, and how often where no other would find room above it on the stack.
type use struct{ times, high int }

// newPool has these tables ahead of the statute's.
func newPool(tables []code.Table) pool {
	return pool{
		tables: slices.Clone(tables), places: map[constant]int{}, named: map[string]int{}, uses: map[constant]use{},
	}
}

// use takes note of one.
func (p *pool) use(v constant, isHigh bool) {
	u := p.uses[v]
	u.times++
	if isHigh {
		u.high++
	}
	p.uses[v] = u
}

// constant tells where a constant stands.
func (p *pool) constant(v constant) int {
	at, ok := p.places[v]
	if !ok {
		at = len(p.consts)
		p.consts = append(p.consts, api.Value{Kind: v.kind, N: p.checked(v.kind, v.n)})
		p.places[v] = at
	}
	return at
}

// checked is the number, and takes note of one that may not be.
func (p *pool) checked(kind api.Kind, n int64) int64 {
	if !limit.Within(kind, n) {
		p.isOff = true
	}
	return n
}

// table tells where one of the statute's tables stands.
func (p *pool) table(d syn.Node) int {
	if at, ok := p.named[d.Name]; ok {
		return at
	}
	t := code.Table{Key: api.Kind(d.N), Val: d.Kind}
	for _, r := range d.Kids {
		lits := r.Kids
		if len(lits) > 1 {
			t.Keys = append(t.Keys, p.checked(t.Key, lits[0].N))
		}
		t.Vals = append(t.Vals, p.checked(t.Val, lits[len(lits)-1].N))
	}
	if len(t.Vals) > maxRows {
		p.isOff = true
	}
	p.named[d.Name] = len(p.tables)
	p.tables = append(p.tables, t)
	return p.named[d.Name]
}
