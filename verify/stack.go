package verify

import (
	"strings"

	"publican/api"
	"publican/code"
)

// stacks is the fifth rule. A stack is written as a text, a byte a kind, the top last: so it can be held against another.
func (c *checker) stacks() (int, bool) {
	return follow(c.p, "", func(i code.Instr, stack string) (string, bool) {
		for _, top := range c.takes(i) {
			rest, has := strings.CutSuffix(stack, top)
			if !has {
				continue
			}
			stack = rest + c.puts(i)
			c.bound.Stack = max(c.bound.Stack, len(stack))
			isLeft := code.Name(i.Op) == "halt" && stack != ""
			return stack, len(stack) <= api.MaxStack && !isLeft
		}
		return "", false
	})
}

// kinds writes a piece of a stack.
func kinds(l ...api.Kind) string {
	var b []byte
	for _, k := range l {
		b = append(b, byte(k))
	}
	return string(b)
}

// takes tells what an instruction may take from the top: one of these.
func (c *checker) takes(i code.Instr) []string {
	a := api.Kind(i.A)
	switch name := code.Name(i.Op); name {
	case "store":
		return []string{kinds(c.p.Slots[i.A])}
	case "out":
		return []string{kinds(c.p.Outs[i.A])}
	case "at":
		return []string{kinds(c.p.Tables[i.A].Key)}
	case "not", "unless":
		return []string{kinds(api.Bool)}
	case "neg":
		return []string{kinds(a)}
	case "lt", "le", "eq", "min", "max":
		return []string{kinds(a, a)}
	case "add", "sub", "mul", "div":
		return operated(name, a)
	}
	return []string{""}
}

// operated tells of which two kinds an operator makes that one.
func operated(name string, is api.Kind) []string {
	var l []string
	for _, u := range units {
		if u.name == name && u.is == is {
			l = append(l, kinds(u.below, u.top))
		}
	}
	return l
}

var units = [...]struct {
	name           string
	is, below, top api.Kind
}{
	{"add", api.Count, api.Count, api.Count},
	{"add", api.Money, api.Money, api.Money},
	{"add", api.Rate, api.Rate, api.Rate},
	{"add", api.Date, api.Date, api.Count},
	{"sub", api.Count, api.Count, api.Count},
	{"sub", api.Count, api.Date, api.Date},
	{"sub", api.Money, api.Money, api.Money},
	{"sub", api.Rate, api.Rate, api.Rate},
	{"sub", api.Date, api.Date, api.Count},
	{"mul", api.Count, api.Count, api.Count},
	{"mul", api.Money, api.Money, api.Count},
	{"mul", api.Money, api.Count, api.Money},
	{"mul", api.Money, api.Money, api.Rate},
	{"mul", api.Money, api.Rate, api.Money},
	{"mul", api.Rate, api.Rate, api.Count},
	{"mul", api.Rate, api.Count, api.Rate},
	{"div", api.Count, api.Count, api.Count},
	{"div", api.Money, api.Money, api.Count},
	{"div", api.Rate, api.Money, api.Money},
}

// puts tells what an instruction puts on the stack.
func (c *checker) puts(i code.Instr) string {
	switch code.Name(i.Op) {
	case "const":
		return kinds(c.p.Consts[i.A].Kind)
	case "in":
		return kinds(c.p.Inputs[i.A])
	case "load":
		return kinds(c.p.Slots[i.A])
	case "add", "sub", "mul", "div", "neg", "min", "max":
		return kinds(api.Kind(i.A))
	case "not", "lt", "le", "eq":
		return kinds(api.Bool)
	case "len":
		return kinds(api.Count)
	case "at":
		return kinds(c.p.Tables[i.A].Val)
	}
	return ""
}
