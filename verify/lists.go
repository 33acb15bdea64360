package verify

import (
	"slices"

	"publican/api"
	"publican/code"
	"publican/limit"
)

const (
	maxConsts = 1024
	maxItems  = 64 // of tables, inputs, outputs and slots each
	maxKeys   = 31
)

// lists is the first rule.
func (c *checker) lists() (int, bool) {
	p := c.p
	return nowhere, hasRoom(p) && areKinds(p.Inputs, api.List) && areKinds(p.Outs, api.Date) && areKinds(p.Slots, api.Date) &&
		!slices.ContainsFunc(p.Consts, isNoConst) && !slices.ContainsFunc(p.Tables, isNoTable)
}

func hasRoom(p code.Program) bool {
	return len(p.Consts) <= maxConsts && len(p.Tables) <= maxItems &&
		len(p.Inputs) <= maxItems && len(p.Outs) <= maxItems && len(p.Slots) <= maxItems &&
		1 <= len(p.Code) && len(p.Code) <= api.MaxCode && len(p.Names) == len(p.Outs)
}

func areKinds(l []api.Kind, last api.Kind) bool {
	return !slices.ContainsFunc(l, func(k api.Kind) bool { return k < api.Bool || k > last })
}

func isNoConst(v api.Value) bool { return !limit.Within(v.Kind, v.N) || len(v.L) > 0 }

func isNoTable(t code.Table) bool {
	isKey := t.Key == api.Count || t.Key == api.Money || t.Key == api.Date
	return !isKey || len(t.Keys) > maxKeys || len(t.Vals) != len(t.Keys)+1 ||
		!fit(t.Key, t.Keys) || !rise(t.Keys) || !fit(t.Val, t.Vals)
}

func fit(k api.Kind, l []int64) bool {
	return !slices.ContainsFunc(l, func(n int64) bool { return !limit.Within(k, n) })
}

func rise(l []int64) bool {
	for i := 1; i < len(l); i++ {
		if l[i] <= l[i-1] {
			return false
		}
	}
	return true
}
