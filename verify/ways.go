package verify

import "publican/code"

// loop is what a first and its next have between them: from behind the first on, the next too.
type loop struct {
	first, next int
	slot        int // where it counts; behind it is what it counts
}

func (l loop) holds(pc int) bool { return l.first < pc && pc <= l.next }

// has tells whether a slot is one of the loop's two.
func (l loop) has(slot int) bool { return slot == l.slot || slot == l.slot+1 }

// ways is the fourth rule.
func (c *checker) ways() (int, bool) {
	c.loops = c.pairs()
	for pc, i := range c.p.Code {
		if !c.isAhead(pc, i) || !c.isPaired(pc, i) {
			return pc, false
		}
		to, goes := target(i)
		for _, l := range c.loops {
			isIn := l.holds(pc)
			if goes && l.holds(to) != isIn || isIn && spoils(i, l) {
				return pc, false
			}
		}
	}
	return 0, true
}

// pairs finds the loops. A first or next without its other half is a fault of its own, and makes none.
func (c *checker) pairs() []loop {
	var l []loop
	for pc, i := range c.p.Code {
		if code.Name(i.Op) == "first" && c.isAhead(pc, i) && c.isPaired(pc, i) {
			l = append(l, loop{first: pc, next: i.C - 1, slot: i.B})
		}
	}
	return l
}

// target tells where an instruction goes that names a place behind it.
func target(i code.Instr) (to int, goes bool) {
	switch code.Name(i.Op) {
	case "jump", "unless":
		return i.A, true
	case "first":
		return i.C, true
	}
	return 0, false
}

func (c *checker) isAhead(pc int, i code.Instr) bool {
	to, goes := target(i)
	return !goes || pc < to && to < len(c.p.Code)
}

// isPaired tells of a first that is ahead of its C, or a next, whether it has its other half; of others it holds.
func (c *checker) isPaired(pc int, i code.Instr) bool {
	other := "next"
	switch code.Name(i.Op) {
	case "first":
	case "next":
		if i.C < 1 || i.C > pc {
			return false
		}
		other = "first"
	default:
		return true
	}
	half := c.p.Code[i.C-1]
	return code.Name(half.Op) == other && half.A == i.A && half.B == i.B && half.C == pc+1
}

// spoils tells whether an instruction in a loop would write to its slots.
func spoils(i code.Instr, l loop) bool {
	switch code.Name(i.Op) {
	case "store":
		return l.has(i.A)
	case "first":
		return l.has(i.B) || l.has(i.B+1)
	}
	return false
}
