package mean

import (
	"slices"

	"publican/api"
	"publican/limit"
)

// fits tells whether a value is as its kind asks.
func fits(v api.Value) bool {
	if v.Kind != api.List {
		return len(v.L) == 0 && limit.Within(v.Kind, v.N)
	}
	isOff := func(n int64) bool { return !limit.Within(api.Money, n) }
	return v.N == 0 && len(v.L) <= api.MaxList && !slices.ContainsFunc(v.L, isOff)
}

// outside is the error of a number that may not be one of that kind.
func outside(k api.Kind) api.Errno {
	if k == api.Date {
		return api.ERANGE
	}
	return api.EOVER
}
