package verify

import (
	"publican/api"
	"publican/code"
)

// halts is the second rule.
func (c *checker) halts() (int, bool) {
	for pc, i := range c.p.Code {
		isLast := pc == len(c.p.Code)-1
		if isLast != (code.Name(i.Op) == "halt") {
			return pc, false
		}
	}
	return 0, true
}

// operands is the third rule.
func (c *checker) operands() (int, bool) {
	for pc, i := range c.p.Code {
		if !c.isThere(i) {
			return pc, false
		}
	}
	return 0, true
}

// isThere tells whether an instruction is one, and what it names is there; of where it goes the next rule asks.
func (c *checker) isThere(i code.Instr) bool {
	switch code.Name(i.Op) {
	case "":
		return false
	case "const":
		return isPlace(i.A, len(c.p.Consts))
	case "in":
		return isPlace(i.A, len(c.p.Inputs)) && c.p.Inputs[i.A] != api.List
	case "load", "store":
		return isPlace(i.A, len(c.p.Slots))
	case "add", "sub", "lt", "le", "min", "max":
		return isKind(i.A, api.Count, api.Date)
	case "mul", "div", "neg":
		return isKind(i.A, api.Count, api.Rate)
	case "eq":
		return isKind(i.A, api.Bool, api.Date)
	case "len":
		return c.isList(i.A)
	case "at":
		return isPlace(i.A, len(c.p.Tables))
	case "first", "next":
		return c.isList(i.A) && c.isPair(i.B)
	case "mark", "out":
		return isPlace(i.A, len(c.p.Outs))
	}
	return true
}

func isPlace(n, many int) bool { return 0 <= n && n < many }

func isKind(n int, least, most api.Kind) bool { return int(least) <= n && n <= int(most) }

func (c *checker) isList(input int) bool {
	return isPlace(input, len(c.p.Inputs)) && c.p.Inputs[input] == api.List
}

// isPair tells whether a loop may count at this slot, and keep what it counts behind it.
func (c *checker) isPair(slot int) bool {
	return isPlace(slot, len(c.p.Slots)-1) && c.p.Slots[slot] == api.Count && c.p.Slots[slot+1] == api.Money
}
