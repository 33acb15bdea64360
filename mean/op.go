package mean

import (
	"publican/api"
	"publican/num"
)

// whole is a rate of 100%.
const whole = 1000000

// outcome tells the kind of what an operator makes of two kinds; None, if they may not be.
func outcome(op string, a, b api.Kind) api.Kind {
	may, is := false, api.Bool
	switch op {
	case "+", "-", "*", "/":
		return reckoned(op, a, b)
	case "neg":
		may, is = isRanked(a) && a != api.Date, a
	case "not":
		may = a == api.Bool
	case "and", "or":
		may = a == api.Bool && b == api.Bool
	case "==", "!=":
		may = a == b && (isRanked(a) || a == api.Bool)
	case "<", "<=", ">", ">=":
		may = a == b && isRanked(a)
	case "min", "max":
		may, is = a == b && isRanked(a), a
	}
	if !may {
		return api.None
	}
	return is
}

func isRanked(k api.Kind) bool {
	return k == api.Count || k == api.Money || k == api.Rate || k == api.Date
}

func reckoned(op string, a, b api.Kind) api.Kind {
	if op == "*" {
		a, b = max(a, b), min(a, b) // either may stand ahead
	}
	for _, u := range units {
		if u.op == op && u.a == a && u.b == b {
			return u.is
		}
	}
	return api.None
}

// units has what may be reckoned; in a product the kind with the greater number stands ahead.
var units = [...]struct {
	op       string
	a, b, is api.Kind
}{
	{"+", api.Count, api.Count, api.Count},
	{"+", api.Money, api.Money, api.Money},
	{"+", api.Rate, api.Rate, api.Rate},
	{"+", api.Date, api.Count, api.Date},
	{"-", api.Count, api.Count, api.Count},
	{"-", api.Money, api.Money, api.Money},
	{"-", api.Rate, api.Rate, api.Rate},
	{"-", api.Date, api.Count, api.Date},
	{"-", api.Date, api.Date, api.Count},
	{"*", api.Count, api.Count, api.Count},
	{"*", api.Money, api.Count, api.Money},
	{"*", api.Rate, api.Count, api.Rate},
	{"*", api.Rate, api.Money, api.Money},
	{"/", api.Count, api.Count, api.Count},
	{"/", api.Money, api.Count, api.Money},
	{"/", api.Money, api.Money, api.Rate},
}

// number works an operator out whose kinds may be, and which does not divide by 0; false, if it is far too great.
func number(op string, a, b api.Value) (int64, bool) {
	switch op {
	case "+":
		return num.Add(a.N, b.N)
	case "-":
		return num.Sub(a.N, b.N)
	case "*":
		return product(a, b)
	case "/":
		return quotient(a, b)
	case "neg":
		return num.Sub(0, a.N)
	case "min":
		return min(a.N, b.N), true
	case "max":
		return max(a.N, b.N), true
	case "and", "or":
		if decides(op, a) {
			return a.N, true
		}
		return b.N, true
	}
	if holds(op, a.N, b.N) {
		return 1, true
	}
	return 0, true
}

func product(a, b api.Value) (int64, bool) {
	if a.Kind != b.Kind && a.Kind != api.Count && b.Kind != api.Count { // a money and a rate
		return num.MulFloor(a.N, b.N, whole)
	}
	return num.Mul(a.N, b.N)
}

func quotient(a, b api.Value) (int64, bool) {
	switch {
	case b.Kind == api.Count:
		return num.Floor(a.N, b.N)
	case b.N < 0:
		// MulFloor wants a divisor above 0; with 100% turned the least number need not be.
		return num.MulFloor(a.N, -whole, -b.N)
	}
	return num.MulFloor(a.N, whole, b.N)
}

func isTrue(v api.Value) bool { return v.N == 1 }

// decides tells whether, behind its first kid, an and or or has no use for its second.
func decides(op string, first api.Value) bool { return isTrue(first) == (op == "or") }

func holds(op string, a, b int64) bool {
	switch op {
	case "<":
		return a < b
	case "<=":
		return a <= b
	case ">":
		return a > b
	case ">=":
		return a >= b
	case "==":
		return a == b
	case "!=":
		return a != b
	}
	return a != 1 // not
}
