package rate

import (
	"math"
	"math/rand"
	"slices"
	"testing"

	"publican/api"
)

// put makes a table of steps that may all be put.
func put(t *testing.T, steps ...Step) *Table {
	t.Helper()
	r := New()
	for _, s := range steps {
		if e := r.Put(s.Day, s.Rate); e != api.OK {
			t.Fatalf("P19.1: Put(%d, %d): %v", s.Day, s.Rate, e)
		}
	}
	return r
}

// has checks all steps.
func has(t *testing.T, r *Table, want ...Step) {
	t.Helper()
	if got := r.Steps(); !slices.Equal(got, want) {
		t.Errorf("P19.1: Steps: %v, want %v", got, want)
	}
}

func TestExample(t *testing.T) {
	r := put(t, Step{10, 5}, Step{20, 7})
	if sum := r.Sum(8, 22); sum != 64 {
		t.Errorf("P19.1: Sum(8, 22): %d", sum)
	}
}

func TestNew(t *testing.T) {
	r := New()
	has(t, r)
	for _, day := range []int{math.MinInt, -1, 0, 1, api.MaxDay, math.MaxInt} {
		if n := r.At(day); n != 0 {
			t.Errorf("P19.1: At(%d) of none: %d", day, n)
		}
	}
	if sum := r.Sum(0, api.MaxDay+1); sum != 0 {
		t.Errorf("P19.1: Sum of none: %d", sum)
	}
	has(t, r.Copy())
}

// TestPut checks what may be put, and which of two errors is told.
func TestPut(t *testing.T) {
	for _, c := range []struct {
		day  int
		rate int64
		e    api.Errno
	}{
		{0, 0, api.OK}, {0, 1000000000, api.OK}, {api.MaxDay, 0, api.OK}, {api.MaxDay, 1000000000, api.OK}, {15, 1, api.OK},
		{-1, 5, api.ERANGE}, {api.MaxDay + 1, 5, api.ERANGE}, {math.MinInt, 5, api.ERANGE}, {math.MaxInt, 5, api.ERANGE},
		{15, -1, api.EARG}, {15, 1000000001, api.EARG}, {15, math.MinInt64, api.EARG}, {15, math.MaxInt64, api.EARG},
		{-1, -1, api.ERANGE}, {api.MaxDay + 1, 1000000001, api.ERANGE}, {math.MaxInt, math.MaxInt64, api.ERANGE},
	} {
		r := put(t, Step{10, 3}, Step{20, 4})
		if e := r.Put(c.day, c.rate); e != c.e {
			t.Errorf("P19.1: Put(%d, %d): %v, want %v", c.day, c.rate, e, c.e)
		}
		want := []Step{{10, 3}, {20, 4}}
		if c.e == api.OK {
			at, _ := slices.BinarySearchFunc(want, c.day, func(s Step, day int) int { return s.Day - day })
			want = slices.Insert(want, at, Step{c.day, c.rate})
		}
		has(t, r, want...) // R3
	}
}

// TestReplaced checks that one of the same day is replaced, whatever stands there.
func TestReplaced(t *testing.T) {
	r := put(t, Step{20, 7}, Step{10, 5}, Step{20, 8}, Step{10, 0}, Step{0, 1}, Step{0, 2}, Step{20, 8})
	has(t, r, Step{0, 2}, Step{10, 0}, Step{20, 8})
	if e := r.Put(10, 1000000001); e != api.EARG {
		t.Errorf("P19.1: a wrong one of a day that is there: %v", e)
	}
	has(t, r, Step{0, 2}, Step{10, 0}, Step{20, 8})
}

// TestLimit checks that there may be 256, and that those may be replaced.
func TestLimit(t *testing.T) {
	r := New()
	for i := range 256 {
		has(t, r, r.Steps()[:i]...)
		if e := r.Put(api.MaxDay-2*i, 5); e != api.OK {
			t.Fatalf("P19.1: the %dth: %v", i+1, e)
		}
	}
	all := r.Steps()
	for _, c := range []struct {
		day  int
		rate int64
		e    api.Errno
	}{
		{0, 1, api.ELIMIT}, {api.MaxDay - 1, 1, api.ELIMIT}, {api.MaxDay - 509, 1, api.ELIMIT}, {api.MaxDay - 511, 5, api.ELIMIT},
		{-1, 1, api.ERANGE}, {api.MaxDay + 1, 1, api.ERANGE}, {0, -1, api.EARG}, {0, 1000000001, api.EARG},
	} {
		if e := r.Put(c.day, c.rate); e != c.e {
			t.Errorf("P19.1: Put(%d, %d) where there are 256: %v, want %v", c.day, c.rate, e, c.e)
		}
	}
	has(t, r, all...)
	for i := range all {
		all[i].Rate = int64(i)
		if e := r.Put(all[i].Day, int64(i)); e != api.OK {
			t.Errorf("P19.1: Put of a day that is there, where there are 256: %v", e)
		}
	}
	has(t, r, all...)
}

// TestAt checks the days around steps, and numbers that are no days.
func TestAt(t *testing.T) {
	r := put(t, Step{10, 5}, Step{20, 0}, Step{21, 7}, Step{api.MaxDay, 9})
	for day, want := range map[int]int64{
		math.MinInt: 0, -1: 0, 0: 0, 9: 0, 10: 5, 11: 5, 19: 5, 20: 0, 21: 7, 22: 7, api.MaxDay - 1: 7,
		api.MaxDay: 9, api.MaxDay + 1: 9, math.MaxInt: 9,
	} {
		if n := r.At(day); n != want {
			t.Errorf("P19.1: At(%d): %d, want %d", day, n, want)
		}
	}
	if n := put(t, Step{0, 5}).At(-1); n != 0 {
		t.Errorf("P19.1: At ahead of all: %d", n)
	}
}

// TestSum checks the edges that the chapter names, and the greatest sum.
func TestSum(t *testing.T) {
	const most = 1000000000
	r := put(t, Step{10, 5}, Step{20, 7}, Step{30, 0}, Step{40, most})
	for _, c := range []struct {
		from, to int
		want     int64
	}{
		{8, 22, 64}, {0, 0, 0}, {10, 10, 0}, {10, 11, 5}, {9, 10, 0}, {9, 11, 5}, {19, 21, 12}, {11, 10, 0}, {22, 8, 0}, {12, 15, 15},
		{22, 25, 21}, {0, 40, 120}, {29, 41, 7 + most}, {39, 42, 2 * most}, {-5, 11, 5}, {-5, -1, 0}, {-5, 0, 0}, {math.MinInt, 11, 5},
		{math.MinInt, math.MaxInt, 120 + most*(api.MaxDay+1-40)}, {math.MaxInt, math.MinInt, 0}, {math.MinInt, math.MinInt, 0},
		{math.MaxInt, math.MaxInt, 0}, {api.MaxDay, api.MaxDay + 1, most}, {api.MaxDay, api.MaxDay + 2, most}, {api.MaxDay, math.MaxInt, most},
		{api.MaxDay + 1, api.MaxDay + 2, 0}, {api.MaxDay + 1, math.MaxInt, 0}, {api.MaxDay - 1, api.MaxDay, most},
	} {
		if sum := r.Sum(c.from, c.to); sum != c.want {
			t.Errorf("P19.1: Sum(%d, %d): %d, want %d", c.from, c.to, sum, c.want)
		}
	}
	if sum := put(t, Step{0, most}).Sum(0, api.MaxDay+1); sum != most*109573 {
		t.Errorf("P19.1: Sum of all days: %d", sum)
	}
}

// TestMemory checks R4: neither steps that were told nor a copy share anything with their table.
func TestMemory(t *testing.T) {
	r := put(t, Step{10, 5}, Step{20, 7}, Step{30, 9})
	told := r.Steps()
	told[0].Rate = 99
	_ = append(told[:1], Step{21, 99})
	told = append(told[:cap(told):cap(told)], Step{31, 99})
	has(t, r, Step{10, 5}, Step{20, 7}, Step{30, 9})
	c := r.Copy()
	has(t, c, Step{10, 5}, Step{20, 7}, Step{30, 9})
	c.Put(10, 6)
	c.Put(40, 1)
	r.Put(40, 2)
	r.Put(20, 8)
	has(t, r, Step{10, 5}, Step{20, 8}, Step{30, 9}, Step{40, 2})
	has(t, c, Step{10, 6}, Step{20, 7}, Step{30, 9}, Step{40, 1})
	told = r.Steps()
	r.Put(10, 0)
	if told[0].Rate != 5 {
		t.Errorf("R4: what was told changes: %v", told)
	}
}

// model has the rates that were put, by their days.
type model map[int]int64

func (m model) put(day int, rate int64) api.Errno {
	_, isThere := m[day]
	switch {
	case day < 0 || day > 109572:
		return api.ERANGE
	case rate < 0 || rate > 1000000000:
		return api.EARG
	case !isThere && len(m) == 256:
		return api.ELIMIT
	}
	m[day] = rate
	return api.OK
}

func (m model) at(day int) int64 {
	last, rate := -1, int64(0)
	for d, r := range m {
		if d <= day && d > last {
			last, rate = d, r
		}
	}
	return rate
}

func (m model) sum(from, to int) int64 {
	sum := int64(0)
	for day := from; day < to; day++ {
		if day >= 0 && day <= 109572 {
			sum += m.at(day)
		}
	}
	return sum
}

// TestModel holds tables against what was put, over rows of calls.
func TestModel(t *testing.T) {
	rng := rand.New(rand.NewSource(19))
	ends := map[api.Errno]int{}
	for turn := range 60 {
		r, m := New(), model{}
		wide := []int{20, 300, 600, 109573}[turn%4]
		start := []int{0, 0, 109573 - wide}[turn%3]
		day := func() int { return start + rng.Intn(wide+4) - 2 }
		for range 40 + rng.Intn(500) {
			d, n := day(), rng.Int63n(1000000100)-50
			e := r.Put(d, n)
			ends[e]++
			if want := m.put(d, n); e != want {
				t.Fatalf("P19.1: Put(%d, %d): %v, want %v", d, n, e, want)
			}
		}
		steps := r.Steps()
		if len(steps) != len(m) || !slices.IsSortedFunc(steps, func(s, o Step) int { return s.Day - o.Day }) {
			t.Fatalf("P19.1: Steps: %v of %v", steps, m)
		}
		for _, s := range steps {
			if rate, isThere := m[s.Day]; !isThere || rate != s.Rate {
				t.Fatalf("P19.1: %v of %v", s, m)
			}
		}
		for range 50 {
			d := day()
			if got, want := r.At(d), m.at(d); got != want {
				t.Fatalf("P19.1: At(%d): %d, want %d", d, got, want)
			}
			to := d + rng.Intn(60) - 5
			if got, want := r.Sum(d, to), m.sum(d, to); got != want {
				t.Fatalf("P19.1: Sum(%d, %d): %d, want %d", d, to, got, want)
			}
			to = day()
			if got, want := r.Sum(d, to), r.Sum(0, max(to, d))-r.Sum(0, d); got != want {
				t.Fatalf("P19.1: Sum(%d, %d): %d, want %d", d, to, got, want)
			}
		}
	}
	if ends[api.ELIMIT] < 1000 || ends[api.ERANGE] < 100 {
		t.Errorf("%v", ends)
	}
}
