package emit

import "publican/code"

// add adds an instruction, and tells where it stands.
func (m *maker) add(name string, operands ...int) int {
	var all [3]int // those that are not named are 0
	copy(all[:], operands)
	m.p.Code = append(m.p.Code, code.Instr{Op: number(name), A: all[0], B: all[1], C: all[2]})
	m.now.height += growth(name)
	m.now.steps++
	m.highest = max(m.highest, m.now.height)
	m.behind = append(m.behind, m.now)
	return m.next() - 1
}

// next is where the next instruction will stand.
func (m *maker) next() int { return len(m.p.Code) }

// jump adds one, behind which it comes from elsewhere alone.
func (m *maker) jump() int {
	at := m.add("jump")
	m.now.steps = 0
	return at
}

// lead lets instructions go to where the next one will stand.
func (m *maker) lead(from ...int) {
	for _, pc := range from {
		m.p.Code[pc].A = m.next()
		m.now.height = m.behind[pc].height
		m.now.steps = max(m.now.steps, m.behind[pc].steps)
	}
}

// number tells an instruction's number, of a name that one has.
func number(name string) int {
	op := 0
	for code.Name(op) != name {
		op++
	}
	return op
}

// growth tells by how much an instruction makes the stack higher.
func growth(name string) int {
	switch name {
	case "const", "in", "load", "len":
		return 1
	case "store", "out", "unless", "add", "sub", "mul", "div", "lt", "le", "eq", "min", "max":
		return -1
	}
	return 0
}
