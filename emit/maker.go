package emit

import (
	"publican/api"
	"publican/code"
	"publican/order"
	"publican/syn"
	"publican/typ"
)

// What verify takes at most, beside api's limits.
const (
	maxConsts = 1024
	maxTables = 64
	maxSlots  = 64
	maxRows   = 32 // a table's values
	maxSteps  = 1 << 40
)

// maker makes the program of a statute without a fault. It goes on past the limits, and tells at the end whether it did.
type maker struct {
	statute syn.Node
	decls   map[string]syn.Node
	inputs  map[string]int
	outs    map[string]int
	slots   map[string]int // of rules that are done, and of the sums around
	leaning map[string]int // how many rules that are not done name the rule
	around  []typ.Field    // the sums around, the innermost last
	isBusy  []bool         // of each slot
	plan    plan
	pool    pool
	now     state
	behind  []state // what was true behind each instruction
	highest int     // how high the stack ever was
	p       code.Program
}

// state is how high the stack is at a place, and how many steps were done at most till then: from the start on or, in a loop, from the loop's.
type state struct {
	height int
	steps  int64
}

func newMaker(n syn.Node, p plan) *maker {
	m := &maker{
		statute: n, decls: map[string]syn.Node{}, inputs: map[string]int{}, outs: map[string]int{},
		slots: map[string]int{}, leaning: map[string]int{}, plan: p, pool: newPool(p.tables),
	}
	for _, d := range n.Kids {
		m.decls[d.Name] = d
	}
	for i, f := range typ.Inputs(n) {
		m.inputs[f.Name] = i
		m.p.Inputs = append(m.p.Inputs, f.Kind)
	}
	for i, f := range typ.Rules(n) {
		m.outs[f.Name] = i
		m.p.Outs = append(m.p.Outs, f.Kind)
		m.p.Names = append(m.p.Names, f.Name)
		for _, name := range order.Names(n, f.Name) {
			m.leaning[name]++
		}
	}
	return m
}

// isCrowded tells whether there are more constants than verify takes.
func (m *maker) isCrowded() bool { return len(m.pool.consts) > maxConsts }

// isWithin tells whether verify takes as much of all else.
func (m *maker) isWithin() bool {
	return len(m.p.Code) <= api.MaxCode && m.highest <= api.MaxStack && len(m.p.Slots) <= maxSlots &&
		len(m.pool.tables) <= maxTables && !m.pool.isOff && m.now.steps <= maxSteps
}

func (m *maker) program() code.Program {
	m.p.Consts, m.p.Tables = m.pool.consts, m.pool.tables
	return m.p
}

// rules works all of them out, in this order.
func (m *maker) rules(names []string) {
	for _, name := range names {
		m.rule(name)
	}
	m.add("halt")
}

// rule works a rule out, behind those it names.
func (m *maker) rule(name string) {
	m.add("mark", m.outs[name])
	kind := m.expr(m.decls[name].Kids[0])
	for _, on := range order.Names(m.statute, name) {
		m.leaning[on]--
		if m.leaning[on] == 0 {
			m.leave(m.slots[on], 1)
		}
	}
	if m.leaning[name] > 0 {
		m.slots[name] = m.take(kind)
		m.add("store", m.slots[name])
		m.add("load", m.slots[name])
	}
	m.add("out", m.outs[name])
}

// take finds slots of these kinds, one behind the other, that nobody has, or makes them.
func (m *maker) take(kinds ...api.Kind) int {
	at := 0
	for at < len(m.isBusy) && !m.isFree(at, kinds) {
		at++
	}
	if at == len(m.isBusy) {
		m.p.Slots = append(m.p.Slots, kinds...)
		m.isBusy = append(m.isBusy, make([]bool, len(kinds))...)
	}
	for i := range kinds {
		m.isBusy[at+i] = true
	}
	return at
}

func (m *maker) isFree(at int, kinds []api.Kind) bool {
	for i, k := range kinds {
		if at+i >= len(m.isBusy) || m.isBusy[at+i] || m.p.Slots[at+i] != k {
			return false
		}
	}
	return true
}

// leave gives slots back.
func (m *maker) leave(at, many int) {
	for i := range many {
		m.isBusy[at+i] = false
	}
}
