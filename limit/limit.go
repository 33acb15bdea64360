// Package limit tells which numbers a kind may have: chapter 13's bounds, which later chapters ask for too.
package limit

import "publican/api"

const maxRate = 1000000000000

// Within tells whether a number may be one of that kind.
func Within(k api.Kind, n int64) bool {
	switch k {
	case api.Bool:
		return n == 0 || n == 1
	case api.Count, api.Money:
		return -api.MaxMoney <= n && n <= api.MaxMoney
	case api.Rate:
		return -maxRate <= n && n <= maxRate
	case api.Date:
		return 0 <= n && n <= api.MaxDay
	}
	return false
}
