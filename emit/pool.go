package emit

import (
	"publican/api"
	"publican/code"
	"publican/limit"
	"publican/syn"
)

// pool has a program's constants and tables, each once.
type pool struct {
	consts []api.Value
	tables []code.Table
	places map[constant]int // in consts
	named  map[string]int   // the statute's tables, in tables
	rows   map[constant]row // of what stands in tables for want of room in consts
	open   map[api.Kind]int // the last table that was made for such, of each kind
	isOff  bool             // some number or table is none that a program may have: syn tells no such tree
}

type constant struct {
	kind api.Kind
	n    int64
}

// row is a place in a table; its key is its number.
type row struct{ table, row int }

func newPool() pool {
	return pool{
		places: map[constant]int{}, named: map[string]int{},
		rows: map[constant]row{}, open: map[api.Kind]int{},
	}
}

// constant tells where a constant stands; false, if it would be past the room.
func (p *pool) constant(kind api.Kind, n int64, room int) (int, bool) {
	v := constant{kind, n}
	at, ok := p.places[v]
	if ok || len(p.consts) >= room {
		return at, ok
	}
	at = len(p.consts)
	p.consts = append(p.consts, api.Value{Kind: kind, N: p.checked(kind, n)})
	p.places[v] = at
	return at, true
}

// checked is the number, and takes note of one that may not be.
func (p *pool) checked(kind api.Kind, n int64) int64 {
	if !limit.Within(kind, n) {
		p.isOff = true
	}
	return n
}

// spare tells the row of a constant in a table that was made for such.
func (p *pool) spare(kind api.Kind, n int64) row {
	v := constant{kind, n}
	if at, ok := p.rows[v]; ok {
		return at
	}
	last, ok := p.open[kind]
	if !ok || len(p.tables[last].Vals) == maxRows {
		last = len(p.tables)
		p.tables = append(p.tables, code.Table{Key: api.Count, Val: kind})
		p.open[kind] = last
	}
	t := &p.tables[last]
	at := row{last, len(t.Vals)}
	if at.row > 0 {
		t.Keys = append(t.Keys, int64(at.row-1)) // the one ahead is no more the last, which has no key
	}
	t.Vals = append(t.Vals, p.checked(kind, n))
	p.rows[v] = at
	return at
}

// table tells where one of the statute's tables stands.
func (p *pool) table(d syn.Node) int {
	if at, ok := p.named[d.Name]; ok {
		return at
	}
	t := code.Table{Key: api.Kind(d.N), Val: d.Kind}
	for _, r := range d.Kids {
		lits := r.Kids
		if len(lits) > 1 {
			t.Keys = append(t.Keys, p.checked(t.Key, lits[0].N))
		}
		t.Vals = append(t.Vals, p.checked(t.Val, lits[len(lits)-1].N))
	}
	if len(t.Vals) > maxRows {
		p.isOff = true
	}
	p.named[d.Name] = len(p.tables)
	p.tables = append(p.tables, t)
	return p.named[d.Name]
}
