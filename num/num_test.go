package num

import (
	"math"
	"math/big"
	"math/rand"
	"testing"
)

const (
	least = math.MinInt64
	most  = math.MaxInt64
)

type pairCase struct {
	a, b, want int64
	ok         bool
}

func checkPairs(t *testing.T, name string, call func(a, b int64) (int64, bool), cases []pairCase) {
	t.Helper()
	for _, c := range cases {
		if got, ok := call(c.a, c.b); got != c.want || ok != c.ok {
			t.Errorf("P1.1: %s(%d, %d): %d, %v; want %d, %v", name, c.a, c.b, got, ok, c.want, c.ok)
		}
	}
}

func TestAdd(t *testing.T) {
	checkPairs(t, "Add", Add, []pairCase{
		{0, 0, 0, true},
		{2, 3, 5, true},
		{-2, -3, -5, true},
		{5, -7, -2, true},
		{most, 0, most, true},
		{most - 1, 1, most, true},
		{most, 1, 0, false},
		{1, most, 0, false},
		{most, most, 0, false},
		{least, 0, least, true},
		{least + 1, -1, least, true},
		{least, -1, 0, false},
		{-1, least, 0, false},
		{least, least, 0, false},
		{least, most, -1, true},
		{most, least, -1, true},
	})
}

func TestSub(t *testing.T) {
	checkPairs(t, "Sub", Sub, []pairCase{
		{0, 0, 0, true},
		{5, 7, -2, true},
		{-5, -7, 2, true},
		{most, 0, most, true},
		{most, -1, 0, false},
		{most - 1, -1, most, true},
		{0, most, least + 1, true},
		{-1, most, least, true},
		{-2, most, 0, false},
		{0, least, 0, false},
		{-1, least, most, true},
		{least, 1, 0, false},
		{least, 0, least, true},
		{least + 1, 1, least, true},
		{least, least, 0, true},
		{most, most, 0, true},
		{most, least, 0, false},
		{least, most, 0, false},
	})
}

func TestMul(t *testing.T) {
	checkPairs(t, "Mul", Mul, []pairCase{
		{0, 0, 0, true},
		{6, 7, 42, true},
		{-6, 7, -42, true},
		{6, -7, -42, true},
		{-6, -7, 42, true},
		{0, least, 0, true},
		{most, 0, 0, true},
		{most, 1, most, true},
		{most, -1, least + 1, true},
		{least, 1, least, true},
		{1, least, least, true},
		{least, -1, 0, false},
		{-1, least, 0, false},
		{1 << 31, 1 << 32, 0, false},
		{-1 << 31, 1 << 32, least, true},
		{1 << 31, -1 << 32, least, true},
		{-1 << 31, -1 << 32, 0, false},
		{1 << 32, 1 << 32, 0, false},
		{3037000499, 3037000499, 9223372030926249001, true},
		{3037000500, 3037000500, 0, false},
		{most, most, 0, false},
		{least, least, 0, false},
		{least, most, 0, false},
	})
}

func TestFloor(t *testing.T) {
	checkPairs(t, "Floor", Floor, []pairCase{
		{7, 2, 3, true},
		{-7, 2, -4, true},
		{7, -2, -4, true},
		{-7, -2, 3, true},
		{-8, 2, -4, true},
		{8, -2, -4, true},
		{0, 5, 0, true},
		{0, -5, 0, true},
		{-1, most, -1, true},
		{1, least, -1, true},
		{most, least, -1, true},
		{least, most, -2, true},
		{least, least, 1, true},
		{most, -1, least + 1, true},
		{least, 1, least, true},
		{least, 2, -1 << 62, true},
		{least, -2, 1 << 62, true},
		{least, -1, 0, false},
		{0, 0, 0, false},
		{1, 0, 0, false},
		{most, 0, 0, false},
		{least, 0, 0, false},
	})
}

func TestMulFloor(t *testing.T) {
	cases := []struct {
		a, b, c, want int64
		ok            bool
	}{
		{1000, 75000, 1000000, 75, true},
		{1 << 62, 4, 8, 1 << 61, true},
		{7, 1, 2, 3, true},
		{-7, 1, 2, -4, true},
		{7, -1, 2, -4, true},
		{-7, -1, 2, 3, true},
		{-8, 1, 2, -4, true},
		{0, least, 1, 0, true},
		{most, most, most, most, true},
		{least, most, most, least, true},
		{least, -1, 1, 0, false},
		{least, -1, 2, 1 << 62, true},
		{least, least, most, 0, false},
		{1 << 62, 2, 1, 0, false},
		{-1 << 62, 2, 1, least, true},
		{1 << 62, -2, 1, least, true},
		{-1 << 62, 3, 1, 0, false},
		{most, 3, 2, 0, false},
		{least, 3, 2, 0, false},
		{-1, 1, most, -1, true},
		{6, 7, 0, 0, false},
		{6, 7, -1, 0, false},
		{6, 7, least, 0, false},
		{0, 0, 0, 0, false},
	}
	for _, c := range cases {
		if got, ok := MulFloor(c.a, c.b, c.c); got != c.want || ok != c.ok {
			t.Errorf("P1.1: MulFloor(%d, %d, %d): %d, %v; want %d, %v", c.a, c.b, c.c, got, ok, c.want, c.ok)
		}
	}
}

// TestNumbersAgainstBig holds P1.1 against numbers without a bound.
func TestNumbersAgainstBig(t *testing.T) {
	sides := spread(rand.New(rand.NewSource(1)), 40)
	for _, a := range sides {
		for _, b := range sides {
			x, y := big.NewInt(a), big.NewInt(b)
			got, ok := Add(a, b)
			checkNumber(t, "P1.1: Add", got, ok, new(big.Int).Add(x, y), a, b)
			got, ok = Sub(a, b)
			checkNumber(t, "P1.1: Sub", got, ok, new(big.Int).Sub(x, y), a, b)
			got, ok = Mul(a, b)
			checkNumber(t, "P1.1: Mul", got, ok, new(big.Int).Mul(x, y), a, b)
			got, ok = Floor(a, b)
			checkNumber(t, "P1.1: Floor", got, ok, bigDown(x, y), a, b)
			for _, c := range sides {
				got, ok = MulFloor(a, b, c)
				checkNumber(t, "P1.1: MulFloor", got, ok, bigShare(new(big.Int).Mul(x, y), c), a, b, c)
			}
		}
	}
}

// spread tells the numbers at which the limbs turn, and some of every length.
func spread(r *rand.Rand, some int) []int64 {
	l := []int64{least, least + 1, -1 << 62, -1 << 32, -1000000, -7, -2, -1, 0, 1, 2, 7, 365000000, 1 << 31, 1 << 32, 1 << 62, most - 1, most}
	for range some {
		l = append(l, int64(r.Uint64())>>r.Intn(64))
	}
	return l
}

// bigDown divides, down; there is none by 0.
func bigDown(a, b *big.Int) *big.Int {
	if b.Sign() == 0 {
		return nil
	}
	q, m := new(big.Int).DivMod(a, b, new(big.Int))
	// DivMod's rest is never below 0: so by a number below 0 its quotient is up.
	if b.Sign() < 0 && m.Sign() != 0 {
		q.Sub(q, big.NewInt(1))
	}
	return q
}

// bigShare divides by a number from 1 on, down; there is none by others.
func bigShare(a *big.Int, c int64) *big.Int {
	if c < 1 {
		return nil
	}
	return bigDown(a, big.NewInt(c))
}

// checkNumber holds an answer against the exact one (nil: there is none).
func checkNumber(t *testing.T, what string, got int64, ok bool, exact *big.Int, args ...any) {
	t.Helper()
	if exact == nil || !exact.IsInt64() {
		if got != 0 || ok {
			t.Errorf("%s of %v: %d, %v; want 0, false", what, args, got, ok)
		}
		return
	}
	if got != exact.Int64() || !ok {
		t.Errorf("%s of %v: %d, %v; want %s, true", what, args, got, ok, exact)
	}
}
