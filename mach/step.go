package mach

import (
	"sort"

	"publican/api"
	"publican/code"
	"publican/mean"
)

// machine runs a program that verify takes, and so asks nothing twice: what an instruction names is there, what it takes is on the stack.
type machine struct {
	p      code.Program
	in     []api.Value
	stack  []api.Value
	slots  []api.Value
	outs   []api.Value
	rule   string // the name of the output that was marked last
	pc     int
	steps  int64
	isDone bool
}

func newMachine(p code.Program, in []api.Value) *machine {
	return &machine{p: p, in: in, slots: noughts(p.Slots), outs: noughts(p.Outs)}
}

func noughts(kinds []api.Kind) []api.Value {
	var l []api.Value
	for _, k := range kinds {
		l = append(l, api.Value{Kind: k})
	}
	return l
}

func (m *machine) push(k api.Kind, n int64) {
	m.stack = append(m.stack, api.Value{Kind: k, N: n})
}

func (m *machine) pop() api.Value {
	top := len(m.stack) - 1
	v := m.stack[top]
	m.stack = m.stack[:top]
	return v
}

// step does the next instruction.
func (m *machine) step() api.Errno {
	i := m.p.Code[m.pc]
	m.pc++
	m.steps++
	switch name := code.Name(i.Op); name {
	case "const":
		m.push(m.p.Consts[i.A].Kind, m.p.Consts[i.A].N)
	case "in":
		m.push(m.in[i.A].Kind, m.in[i.A].N)
	case "load":
		m.push(m.slots[i.A].Kind, m.slots[i.A].N)
	case "store":
		m.slots[i.A] = m.pop()
	case "len":
		m.push(api.Count, int64(len(m.in[i.A].L)))
	case "at":
		t := m.p.Tables[i.A]
		m.push(t.Val, lookUp(t, m.pop().N))
	case "jump":
		m.pc = i.A
	case "unless":
		if m.pop().N == 0 {
			m.pc = i.A
		}
	case "first", "next":
		m.loop(name, i)
	case "mark":
		m.rule = m.p.Names[i.A]
	case "out":
		m.outs[i.A] = m.pop()
	case "halt":
		m.isDone = true
	default:
		return m.operate(name)
	}
	return api.OK
}

// loop begins a loop, or goes on with it.
func (m *machine) loop(name string, i code.Instr) {
	list, at := m.in[i.A].L, int64(0)
	if name == "next" {
		at = m.slots[i.B].N + 1
		m.slots[i.B].N = at
	}
	hasOne := at < int64(len(list))
	if hasOne {
		m.slots[i.B].N, m.slots[i.B+1].N = at, list[at]
	}
	// A first goes to its C where there is none, a next where there is one.
	if hasOne == (name == "next") {
		m.pc = i.C
	}
}

// lookUp tells the value of the first key that is not less, or the last one.
func lookUp(t code.Table, key int64) int64 {
	return t.Vals[sort.Search(len(t.Keys), func(i int) bool { return t.Keys[i] >= key })]
}

// operate works an operator out, of the one or two that it takes.
func (m *machine) operate(name string) api.Errno {
	op, takes := operator(name)
	var b api.Value
	if takes == 2 {
		b = m.pop()
	}
	v, e := mean.Op(op, m.pop(), b)
	m.push(v.Kind, v.N)
	return e
}

// operator tells what mean calls an instruction's operator, and how many it takes.
func operator(name string) (op string, takes int) {
	switch name {
	case "add":
		return "+", 2
	case "sub":
		return "-", 2
	case "mul":
		return "*", 2
	case "div":
		return "/", 2
	case "lt":
		return "<", 2
	case "le":
		return "<=", 2
	case "eq":
		return "==", 2
	case "min", "max":
		return name, 2
	}
	return name, 1 // neg, not
}
