package verify

import "publican/code"

// follow brings a state along all ways, from the first instruction on; step tells what an instruction makes of it, and whether it may.
// All ways to a place must bring the same.
func follow[S comparable](p code.Program, start S, step func(i code.Instr, s S) (S, bool)) (int, bool) {
	states := make([]S, len(p.Code))
	isKnown := make([]bool, len(p.Code))
	states[0], isKnown[0] = start, true
	fault := nowhere
places:
	for pc, i := range p.Code {
		if !isKnown[pc] {
			continue // no way comes here
		}
		s, ok := step(i, states[pc])
		if !ok {
			fault = pc
			break
		}
		for _, to := range onward(pc, i) {
			if isKnown[to] && states[to] != s {
				fault = pc
				break places
			}
			states[to], isKnown[to] = s, true
		}
	}
	return fault, fault == nowhere
}

// onward tells where it may go on from an instruction.
func onward(pc int, i code.Instr) []int {
	switch code.Name(i.Op) {
	case "halt":
		return nil
	case "jump":
		return []int{i.A}
	case "unless":
		return []int{pc + 1, i.A}
	case "first", "next":
		return []int{pc + 1, i.C}
	}
	return []int{pc + 1}
}
