package limit

import (
	"math"
	"testing"

	"publican/api"
)

// TestWithin checks P13.1's bounds of each kind: at them, and one past them.
func TestWithin(t *testing.T) {
	for k, edges := range map[api.Kind][2]int64{
		api.Bool:  {0, 1},
		api.Count: {-4503599627370496, 4503599627370496},
		api.Money: {-4503599627370496, 4503599627370496},
		api.Rate:  {-1000000000000, 1000000000000},
		api.Date:  {0, 109572},
	} {
		low, high := edges[0], edges[1]
		for _, n := range []int64{low, low + 1, 0, 1, high - 1, high} {
			if !Within(k, n) {
				t.Errorf("P13.1: kind %d may not have %d", k, n)
			}
		}
		for _, n := range []int64{math.MinInt64, low - 1, high + 1, math.MaxInt64} {
			if Within(k, n) {
				t.Errorf("P13.1: kind %d may have %d", k, n)
			}
		}
	}
	for _, k := range []api.Kind{math.MinInt, -1, api.None, api.List, 7, math.MaxInt} {
		if Within(k, 0) || Within(k, 1) {
			t.Errorf("P13.1: kind %d has numbers", k)
		}
	}
}
