package mean

import (
	"slices"

	"publican/api"
)

const maxRate = 1000000000000

// fits tells whether a value is as its kind asks.
func fits(v api.Value) bool {
	if v.Kind != api.List {
		return len(v.L) == 0 && within(v.Kind, v.N)
	}
	isOff := func(n int64) bool { return !within(api.Money, n) }
	return v.N == 0 && len(v.L) <= api.MaxList && !slices.ContainsFunc(v.L, isOff)
}

// within tells whether a number may be one of that kind.
func within(k api.Kind, n int64) bool {
	switch k {
	case api.Bool:
		return n == 0 || n == 1
	case api.Count, api.Money:
		return -api.MaxMoney <= n && n <= api.MaxMoney
	case api.Rate:
		return -maxRate <= n && n <= maxRate
	case api.Date:
		return 0 <= n && n <= api.MaxDay
	}
	return false
}

// outside is the error of a number that may not be one of that kind.
func outside(k api.Kind) api.Errno {
	if k == api.Date {
		return api.ERANGE
	}
	return api.EOVER
}
