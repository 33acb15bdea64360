package emit

import (
	"publican/api"
	"publican/syn"
	"publican/typ"
)

// expr puts an expression's value on the stack, and tells its kind.
func (m *maker) expr(e syn.Node) api.Kind {
	kind, isTurned := m.either(e)
	if isTurned {
		m.add("not")
	}
	return kind
}

// either puts a value on the stack or, of a bool, its opposite, where that takes an instruction less: then it is turned.
func (m *maker) either(e syn.Node) (kind api.Kind, isTurned bool) {
	switch e.Op {
	case "not":
		_, isTurned = m.either(e.Kids[0])
		return api.Bool, !isTurned
	case "and", "or":
		return api.Bool, m.connect(e)
	case "<", "<=", ">", ">=", "==", "!=":
		return api.Bool, m.compare(e)
	case "lit":
		return m.lit(e.Kind, e.N), false
	case "name":
		return m.name(e.Name), false
	case "if":
		return m.choose(e), false
	case "neg":
		kind = m.expr(e.Kids[0])
		m.add("neg", int(kind))
		return kind, false
	case "len":
		m.add("len", m.inputs[e.Kids[0].Name]) // only an input's name is moneys
		return api.Count, false
	case "at":
		m.expr(e.Kids[0])
		m.add("at", m.pool.table(m.decls[e.Name]))
		return m.decls[e.Name].Kind, false
	case "sum":
		return m.sum(e), false
	}
	return m.reckon(e), false
}

// lit puts a constant on the stack.
func (m *maker) lit(kind api.Kind, n int64) api.Kind {
	v := constant{kind, n}
	m.pool.use(v, m.now.height+1 >= api.MaxStack)
	m.put(v)
	return kind
}

func (m *maker) put(v constant) {
	r, isMade := m.plan.recipes[v]
	if !isMade {
		m.add("const", m.pool.constant(v))
		return
	}
	for _, part := range r.parts {
		m.put(part)
	}
	m.add(r.name, r.operand)
}

// name puts on the stack what a name stands for: typ lets no two of them be alike.
func (m *maker) name(name string) api.Kind {
	if slot, ok := m.slots[name]; ok {
		m.add("load", slot)
		return m.p.Slots[slot]
	}
	m.add("in", m.inputs[name])
	return m.p.Inputs[m.inputs[name]]
}

// reckon works an operator of two kids out that makes no bool.
func (m *maker) reckon(e syn.Node) api.Kind {
	first, second := m.expr(e.Kids[0]), e.Kids[1]
	if second.Op == "lit" && (e.Op == "+" || e.Op == "-") {
		return m.move(e.Op, first, constant{second.Kind, second.N})
	}
	kind := outcome(e.Op, first, m.expr(second))
	m.add(instruction(e.Op), int(kind))
	return kind
}

// move adds a constant to what is on the stack, or takes it away; one below 0 does the other, turned. One that is made of two is so by
// one after the other, and the stack gets no higher for it. Both go the same way: what would be too great between them is so behind them.
func (m *maker) move(op string, first api.Kind, v constant) api.Kind {
	kind, name := outcome(op, first, v.kind), instruction(op)
	if v.n < 0 {
		v.n = -v.n
		name = instruction(opposite(op))
	}
	m.pool.use(v, false)
	parts := []constant{v}
	if r := m.plan.recipes[v]; len(r.parts) == 2 {
		parts = r.parts
	}
	for _, part := range parts {
		m.put(part)
		m.add(name, int(kind))
	}
	return kind
}

// opposite is of + or -.
func opposite(op string) string {
	if op == "+" {
		return "-"
	}
	return "+"
}

// outcome tells the kind of what an operator makes of two kinds: typ is asked, of names that have them.
func outcome(op string, first, second api.Kind) api.Kind {
	e := syn.Node{Op: op, Kids: []syn.Node{{Op: "name", Name: "a"}, {Op: "name", Name: "b"}}}
	return typ.Of(syn.Node{}, e, typ.Field{Name: "a", Kind: first}, typ.Field{Name: "b", Kind: second})
}

// instruction names the one that works an operator out; of > >= != it makes the opposite.
func instruction(op string) string {
	switch op {
	case "+":
		return "add"
	case "-":
		return "sub"
	case "*":
		return "mul"
	case "/":
		return "div"
	case "<", ">=":
		return "lt"
	case "<=", ">":
		return "le"
	case "==", "!=":
		return "eq"
	}
	return op // min, max
}

// sum adds up what comes of a list's moneys, on the stack, and has two slots for the loop till then.
func (m *maker) sum(e syn.Node) api.Kind {
	list := m.inputs[e.Kids[0].Name]
	kind := typ.Of(m.statute, e, m.around...)
	m.lit(kind, 0)
	slot := m.take(api.Count, api.Money)
	first := m.add("first", list, slot)
	ahead := m.now.steps
	m.now.steps = 0
	m.around = append(m.around, typ.Field{Name: e.Name, Kind: api.Money})
	m.slots[e.Name] = slot + 1
	m.expr(e.Kids[1])
	delete(m.slots, e.Name)
	m.around = m.around[:len(m.around)-1]
	m.add("add", int(kind))
	m.add("next", list, slot, first+1)
	m.now.steps = ahead + api.MaxList*m.now.steps
	m.p.Code[first].C = m.next()
	m.leave(slot, 2)
	return kind
}
