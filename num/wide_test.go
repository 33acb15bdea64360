package num

import (
	"math"
	"math/big"
	"math/rand"
	"testing"
)

const top = math.MaxUint64

var (
	leastWide = Wide{Hi: least}
	mostWide  = Wide{Hi: most, Lo: top}
)

func TestOf(t *testing.T) {
	cases := []struct {
		a    int64
		want Wide
	}{
		{0, Wide{}},
		{1, Wide{Lo: 1}},
		{-1, Wide{Hi: -1, Lo: top}},
		{-2, Wide{Hi: -1, Lo: top - 1}},
		{most, Wide{Lo: most}},
		{least, Wide{Hi: -1, Lo: 1 << 63}},
	}
	for _, c := range cases {
		if got := Of(c.a); got != c.want {
			t.Errorf("P1.2: Of(%d): %v; want %v", c.a, got, c.want)
		}
	}
}

func TestPlus(t *testing.T) {
	cases := []struct {
		w, v, want Wide
		ok         bool
	}{
		{Of(2), Of(3), Of(5), true},
		{Of(2), Of(-3), Of(-1), true},
		{Of(-1), Of(1), Wide{}, true},
		{Wide{Lo: top}, Of(1), Wide{Hi: 1}, true},
		{Wide{Hi: 1}, Of(-1), Wide{Lo: top}, true},
		{Of(most), Of(most), Wide{Lo: top - 1}, true},
		{Of(least), Of(least), Wide{Hi: -1}, true},
		{mostWide, Wide{}, mostWide, true},
		{mostWide, Of(1), Wide{}, false},
		{Of(1), mostWide, Wide{}, false},
		{Wide{Hi: most, Lo: top - 1}, Of(1), mostWide, true},
		{Wide{Hi: 1 << 62}, Wide{Hi: 1 << 62}, Wide{}, false},
		{Wide{Hi: 1<<62 - 1, Lo: 1 << 63}, Wide{Hi: 1 << 62, Lo: 1 << 63}, Wide{}, false},
		{leastWide, Wide{}, leastWide, true},
		{leastWide, Of(-1), Wide{}, false},
		{Of(-1), leastWide, Wide{}, false},
		{Wide{Hi: least, Lo: 1}, Of(-1), leastWide, true},
		{Wide{Hi: -1 << 62}, Wide{Hi: -1 << 62}, leastWide, true},
		{leastWide, leastWide, Wide{}, false},
		{leastWide, mostWide, Of(-1), true},
	}
	for _, c := range cases {
		if got, ok := c.w.Plus(c.v); got != c.want || ok != c.ok {
			t.Errorf("P1.2: %v.Plus(%v): %v, %v; want %v, %v", c.w, c.v, got, ok, c.want, c.ok)
		}
	}
}

func TestPlusMul(t *testing.T) {
	cases := []struct {
		w    Wide
		a, b int64
		want Wide
		ok   bool
	}{
		{Of(1), 6, 7, Of(43), true},
		{Of(1), -6, 7, Of(-41), true},
		{Of(1), 6, -7, Of(-41), true},
		{Of(-1), -6, -7, Of(41), true},
		{mostWide, 0, least, mostWide, true},
		{Wide{}, 1 << 62, 4, Wide{Hi: 1}, true},
		{Wide{}, most, most, Wide{Hi: 1<<62 - 1, Lo: 1}, true},
		{Wide{}, least, least, Wide{Hi: 1 << 62}, true},
		{Wide{}, least, most, Wide{Hi: -1 << 62, Lo: 1 << 63}, true},
		{Wide{Hi: 1<<62 - 1, Lo: top}, least, least, mostWide, true},
		{Wide{Hi: 1 << 62}, least, least, Wide{}, false},
		{mostWide, 1, 1, Wide{}, false},
		{mostWide, -1, 1, Wide{Hi: most, Lo: top - 1}, true},
		{Wide{Hi: -1 << 62, Lo: 0}, least, most, Wide{Hi: least, Lo: 1 << 63}, true},
		{leastWide, 1, -1, Wide{}, false},
		{leastWide, least, least, Wide{Hi: -1 << 62}, true},
	}
	for _, c := range cases {
		if got, ok := c.w.PlusMul(c.a, c.b); got != c.want || ok != c.ok {
			t.Errorf("P1.2: %v.PlusMul(%d, %d): %v, %v; want %v, %v", c.w, c.a, c.b, got, ok, c.want, c.ok)
		}
	}
}

func TestMinus(t *testing.T) {
	cases := []struct {
		w, want Wide
		ok      bool
	}{
		{Wide{}, Wide{}, true},
		{Of(7), Of(-7), true},
		{Of(-7), Of(7), true},
		{Of(least), Wide{Lo: 1 << 63}, true},
		{Wide{Hi: 1}, Wide{Hi: -1}, true},
		{Wide{Lo: top}, Wide{Hi: -1, Lo: 1}, true},
		{mostWide, Wide{Hi: least, Lo: 1}, true},
		{Wide{Hi: least, Lo: 1}, mostWide, true},
		{leastWide, Wide{}, false},
	}
	for _, c := range cases {
		if got, ok := c.w.Minus(); got != c.want || ok != c.ok {
			t.Errorf("P1.2: %v.Minus(): %v, %v; want %v, %v", c.w, got, ok, c.want, c.ok)
		}
	}
}

// TestCmp: the numbers rise, so where they stand says what Cmp must.
func TestCmp(t *testing.T) {
	rising := []Wide{leastWide, {Hi: least, Lo: 1}, {Hi: least, Lo: top}, {Hi: -1}, Of(least), Of(-1), {}, Of(1), Of(most), {Lo: 1 << 63}, {Lo: top}, {Hi: 1}, {Hi: 1, Lo: 1}, {Hi: most}, mostWide}
	for i, w := range rising {
		for j, v := range rising {
			want := 0
			if i < j {
				want = -1
			} else if i > j {
				want = 1
			}
			if got := w.Cmp(v); got != want {
				t.Errorf("P1.2: %v.Cmp(%v): %d; want %d", w, v, got, want)
			}
		}
	}
}

func TestWideFloor(t *testing.T) {
	cases := []struct {
		w       Wide
		c, want int64
		ok      bool
	}{
		{Of(7), 2, 3, true},
		{Of(-7), 2, -4, true},
		{Of(-8), 2, -4, true},
		{Of(-1), most, -1, true},
		{Wide{}, most, 0, true},
		{Of(most), 1, most, true},
		{Of(least), 1, least, true},
		{Wide{Lo: 1 << 63}, 1, 0, false},
		{Wide{Hi: -1, Lo: 1<<63 - 1}, 1, 0, false},
		{Wide{Lo: top}, 2, most, true},
		{Wide{Hi: 1}, 2, 0, false},
		{Wide{Hi: -1}, 2, least, true},
		{Wide{Hi: -2, Lo: top}, 2, 0, false},
		{Wide{Hi: 1<<62 - 1, Lo: most}, most, most, true},
		{Wide{Hi: 1<<62 - 1, Lo: 1 << 63}, most, 0, false},
		{mostWide, most, 0, false},
		{leastWide, most, 0, false},
		{mostWide, 1, 0, false},
		{leastWide, 1, 0, false},
		{Of(42), 0, 0, false},
		{Of(42), -1, 0, false},
		{Of(42), least, 0, false},
		{Wide{}, 0, 0, false},
	}
	for _, c := range cases {
		if got, ok := c.w.Floor(c.c); got != c.want || ok != c.ok {
			t.Errorf("P1.2: %v.Floor(%d): %d, %v; want %d, %v", c.w, c.c, got, ok, c.want, c.ok)
		}
	}
}

// TestWideAgainstBig holds P1.2 against numbers without a bound.
func TestWideAgainstBig(t *testing.T) {
	r := rand.New(rand.NewSource(2))
	sides := spread(r, 20)
	wides := spreadWide(r, 60)
	for _, w := range wides {
		x := bigOf(w)
		m, ok := w.Minus()
		checkWide(t, "P1.2: Minus", m, ok, new(big.Int).Neg(x), w)
		for _, v := range wides {
			s, ok := w.Plus(v)
			checkWide(t, "P1.2: Plus", s, ok, new(big.Int).Add(x, bigOf(v)), w, v)
			if got := w.Cmp(v); got != x.Cmp(bigOf(v)) {
				t.Errorf("P1.2: %v.Cmp(%v): %d", w, v, got)
			}
		}
		for _, a := range sides {
			q, ok := w.Floor(a)
			checkNumber(t, "P1.2: Floor", q, ok, bigShare(x, a), w, a)
			for _, b := range sides {
				s, ok := w.PlusMul(a, b)
				p := new(big.Int).Mul(big.NewInt(a), big.NewInt(b))
				checkWide(t, "P1.2: PlusMul", s, ok, p.Add(p, x), w, a, b)
			}
		}
	}
	for _, a := range sides {
		checkWide(t, "P1.2: Of", Of(a), true, big.NewInt(a), a)
	}
}

// spreadWide tells the edges and some numbers of every length.
func spreadWide(r *rand.Rand, some int) []Wide {
	l := []Wide{leastWide, {Hi: least, Lo: 1}, {Hi: -1}, {Hi: -1, Lo: 1<<63 - 1}, Of(least), Of(-1), {}, Of(1), Of(most), {Lo: 1 << 63}, {Lo: top}, {Hi: 1}, {Hi: most}, mostWide}
	for range some {
		l = append(l, Wide{Hi: int64(r.Uint64()) >> r.Intn(64), Lo: r.Uint64() >> r.Intn(64)})
	}
	return l
}

func bigOf(w Wide) *big.Int {
	x := new(big.Int).Lsh(big.NewInt(w.Hi), 64)
	return x.Add(x, new(big.Int).SetUint64(w.Lo))
}

// checkWide holds an answer against the exact number.
func checkWide(t *testing.T, what string, got Wide, ok bool, exact *big.Int, args ...any) {
	t.Helper()
	if exact.Cmp(bigOf(leastWide)) < 0 || exact.Cmp(bigOf(mostWide)) > 0 {
		if got != (Wide{}) || ok {
			t.Errorf("%s of %v: %v, %v; want nothing, false", what, args, got, ok)
		}
		return
	}
	if bigOf(got).Cmp(exact) != 0 || !ok {
		t.Errorf("%s of %v: %v, %v; want %s, true", what, args, got, ok, exact)
	}
}
