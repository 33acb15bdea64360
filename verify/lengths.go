package verify

import (
	"publican/api"
	"publican/code"
)

const maxSteps = 1 << 40

// lengths is the seventh rule. Of each place it tells the most steps to the halt or, in a loop, to the loop's next:
// from the last place on, since all ways lead to places behind, but for a loop's own.
func (c *checker) lengths() (int, bool) {
	last := len(c.p.Code) - 1
	most := make([]int64, last+1)
	for pc := last; pc >= 0; pc-- {
		i := c.p.Code[pc]
		var behind int64
		switch code.Name(i.Op) {
		case "halt", "next":
		case "jump":
			behind = most[i.A]
		case "unless":
			behind = max(most[pc+1], most[i.A])
		case "first":
			behind = api.MaxList*most[pc+1] + most[i.C]
		default:
			behind = most[pc+1]
		}
		most[pc] = min(1+behind, maxSteps+1) // so that no number here gets too great
	}
	c.bound.Steps = most[0]
	return nowhere, most[0] <= maxSteps
}
