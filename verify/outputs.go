package verify

import "publican/code"

// noOutput is what is marked at first.
const noOutput = -1

// progress is which output is marked, and of each whether it is out: a bit.
type progress struct {
	marked int
	out    uint64
}

// outputs is the sixth rule: of all instructions whether they stand in a loop, and then what the ways bring.
func (c *checker) outputs() (int, bool) {
	if pc, ok := c.loopsAreFree(); !ok {
		return pc, false
	}
	all := uint64(1)<<len(c.p.Outs) - 1 // with 64 of them the 1 is shifted out, and all bits are set
	return follow(c.p, progress{marked: noOutput}, func(i code.Instr, s progress) (progress, bool) {
		bit := uint64(1) << (uint(i.A) % maxItems)
		switch code.Name(i.Op) {
		case "mark":
			s.marked = i.A
		case "out":
			if s.marked != i.A || s.out&bit != 0 {
				return s, false
			}
			s.out |= bit
		case "halt":
			return s, s.out == all
		}
		return s, true
	})
}

func (c *checker) loopsAreFree() (int, bool) {
	for pc, i := range c.p.Code {
		name := code.Name(i.Op)
		if name != "mark" && name != "out" {
			continue
		}
		for _, l := range c.loops {
			if l.holds(pc) {
				return pc, false
			}
		}
	}
	return 0, true
}
