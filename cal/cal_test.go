package cal

import (
	"math"
	"testing"
	"time"

	"publican/api"
)

// noDays are numbers that are no days.
var noDays = []int{-1, -2, api.MaxDay + 1, api.MaxDay + 2, math.MinInt, math.MinInt + 1, math.MaxInt, math.MaxInt - 1}

// midnight tells the library's time of a date, months and days past the end carried over.
func midnight(y, m, d int) time.Time { return time.Date(y, time.Month(m), d, 0, 0, 0, 0, time.UTC) }

// dayOf tells a date's day by the library's count of seconds (its durations are too short for these years).
func dayOf(at time.Time) int { return int((at.Unix() - midnight(1900, 1, 1).Unix()) / 86400) }

func TestLeap(t *testing.T) {
	cases := []struct {
		y    int
		want bool
	}{
		{1900, false}, {1904, true}, {1999, false}, {2000, true}, {2001, false}, {2023, false}, {2024, true},
		{2100, false}, {2200, false}, {2400, true}, {0, true}, {4, true}, {100, false}, {400, true},
		{-1, false}, {-4, true}, {-100, false}, {-400, true}, {math.MaxInt, false}, {math.MinInt, true},
	}
	for _, c := range cases {
		if got := Leap(c.y); got != c.want {
			t.Errorf("P2.1: Leap(%d): %v; want %v", c.y, got, c.want)
		}
	}
	for y := -900; y <= 2900; y++ {
		if got, want := Leap(y), midnight(y, 12, 31).YearDay() == 366; got != want {
			t.Errorf("P2.1: Leap(%d): %v; want %v", y, got, want)
		}
	}
}

func TestDays(t *testing.T) {
	for y := -900; y <= 2900; y++ {
		for m := 1; m <= 12; m++ {
			if got, want := Days(y, m), midnight(y, m+1, 0).Day(); got != want {
				t.Fatalf("P2.1: Days(%d, %d): %d; want %d", y, m, got, want)
			}
		}
		for _, m := range []int{0, 13, -1, -2, 14, 24, math.MinInt, math.MaxInt} {
			if got := Days(y, m); got != 0 {
				t.Fatalf("P2.1: Days(%d, %d): %d; want 0", y, m, got)
			}
		}
	}
	if got := Days(math.MinInt, 2); got != 29 {
		t.Errorf("P2.1: Days(the least year, 2): %d; want 29", got)
	}
	if got := Days(math.MaxInt, 2); got != 28 {
		t.Errorf("P2.1: Days(the greatest year, 2): %d; want 28", got)
	}
}

func TestOf(t *testing.T) {
	cases := []struct {
		y, m, d, want int
		ok            bool
	}{
		{1900, 1, 1, 0, true},
		{1900, 3, 1, 59, true},
		{2000, 3, 1, 36584, true},
		{2199, 12, 31, api.MaxDay, true},
		{1899, 12, 31, 0, false},
		{2200, 1, 1, 0, false},
		{1900, 2, 29, 0, false},
		{2100, 2, 29, 0, false},
		{2024, 4, 31, 0, false},
		{math.MinInt, 1, 1, 0, false},
		{math.MaxInt, 1, 1, 0, false},
		{2024, math.MinInt, 1, 0, false},
		{2024, math.MaxInt, 1, 0, false},
		{2024, 1, math.MinInt, 0, false},
		{2024, 1, math.MaxInt, 0, false},
	}
	for _, c := range cases {
		if got, ok := Of(c.y, c.m, c.d); got != c.want || ok != c.ok {
			t.Errorf("P2.1: Of(%d, %d, %d): %d, %v; want %d, %v", c.y, c.m, c.d, got, ok, c.want, c.ok)
		}
	}
}

// TestOfEverywhere asks for all dates and for those just beside them, which the library carries over.
func TestOfEverywhere(t *testing.T) {
	for y := 1898; y <= 2201; y++ {
		for m := -1; m <= 14; m++ {
			for d := -1; d <= 33; d++ {
				at := midnight(y, m, d)
				want := 0
				ok := y >= 1900 && y <= 2199 && at.Year() == y && int(at.Month()) == m && at.Day() == d
				if ok {
					want = dayOf(at)
				}
				if got, is := Of(y, m, d); got != want || is != ok {
					t.Fatalf("P2.1: Of(%d, %d, %d): %d, %v; want %d, %v", y, m, d, got, is, want, ok)
				}
			}
		}
	}
}

func TestDate(t *testing.T) {
	at := midnight(1900, 1, 1)
	for n := 0; n <= api.MaxDay; n++ {
		wantY, wantM, wantD := at.Date()
		if y, m, d, ok := Date(n); y != wantY || m != int(wantM) || d != wantD || !ok {
			t.Fatalf("P2.1: Date(%d): %d, %d, %d, %v; want %v", n, y, m, d, ok, at)
		}
		at = at.AddDate(0, 0, 1)
	}
	if at != midnight(2200, 1, 1) {
		t.Errorf("P2.1: the day behind the last one is %v", at)
	}
	for _, n := range noDays {
		if y, m, d, ok := Date(n); y != 0 || m != 0 || d != 0 || ok {
			t.Errorf("P2.1: Date(%d): %d, %d, %d, %v; want noughts and false", n, y, m, d, ok)
		}
	}
}

func TestWeekday(t *testing.T) {
	at := midnight(1900, 1, 1)
	for n := 0; n <= api.MaxDay; n++ {
		// The library's week begins with Sunday.
		if got, want := Weekday(n), (int(at.Weekday())+6)%7; got != want {
			t.Fatalf("P2.1: Weekday(%d): %d; want %d", n, got, want)
		}
		at = at.AddDate(0, 0, 1)
	}
	for _, n := range noDays {
		if got := Weekday(n); got != -1 {
			t.Errorf("P2.1: Weekday(%d): %d; want -1", n, got)
		}
	}
}

func TestMonths(t *testing.T) {
	cases := []struct {
		from string
		k    int
		want string
	}{
		{"2023-01-31", 1, "2023-02-28"},
		{"2024-01-31", 1, "2024-02-29"},
		{"2024-01-31", 2, "2024-03-31"},
		{"2024-03-31", -1, "2024-02-29"},
		{"2024-02-29", 12, "2025-02-28"},
		{"2024-02-29", -12, "2023-02-28"},
		{"2096-02-29", 48, "2100-02-28"},
		{"2024-02-29", 48, "2028-02-29"},
		{"2024-05-31", 0, "2024-05-31"},
		{"2023-12-15", 1, "2024-01-15"},
		{"2024-01-15", -1, "2023-12-15"},
		{"2024-12-31", -12, "2023-12-31"},
		{"1900-01-01", 3599, "2199-12-01"},
		{"1900-01-01", 3600, ""},
		{"1900-01-31", -1, ""},
		{"1900-02-01", -1, "1900-01-01"},
		{"1900-02-28", -2, ""},
		{"2199-12-31", 0, "2199-12-31"},
		{"2199-12-01", 1, ""},
		{"2199-11-30", 1, "2199-12-30"},
		{"2199-12-31", -3599, "1900-01-31"},
		{"2199-12-31", -3600, ""},
		{"2050-06-30", math.MaxInt, ""},
		{"2050-06-30", math.MinInt, ""},
		{"1900-01-01", math.MaxInt, ""},
		{"1900-01-01", math.MinInt, ""},
		{"2199-12-31", math.MaxInt, ""},
		{"2199-12-31", math.MinInt, ""},
	}
	for _, c := range cases {
		n, ok := Read(c.from)
		if !ok {
			t.Fatalf("P2.1: Read(%q): there is none", c.from)
		}
		want, wantOk := Read(c.want)
		if got, ok := Months(n, c.k); got != want || ok != wantOk {
			t.Errorf("P2.1: Months(%s, %d): %d, %v; want %q", c.from, c.k, got, ok, c.want)
		}
	}
	for _, n := range noDays {
		for _, k := range []int{0, 1, -1, math.MinInt, math.MaxInt} {
			if got, ok := Months(n, k); got != 0 || ok {
				t.Errorf("P2.1: Months(%d, %d): %d, %v; want 0, false", n, k, got, ok)
			}
		}
	}
}

// TestMonthsEverywhere goes from every day a little way, and from some days to every month and past the ends.
func TestMonthsEverywhere(t *testing.T) {
	for n := 0; n <= api.MaxDay; n++ {
		for k := -13; k <= 13; k++ {
			checkMonths(t, n, k)
		}
	}
	for _, n := range []int{0, 30, 36524, 36583, 45000, api.MaxDay - 30, api.MaxDay} {
		for k := -3700; k <= 3700; k++ {
			checkMonths(t, n, k)
		}
	}
}

// checkMonths holds an answer against the library's month.
func checkMonths(t *testing.T, n, k int) {
	t.Helper()
	from := midnight(1900, 1, 1+n)
	first := midnight(from.Year(), int(from.Month())+k, 1)
	last := midnight(first.Year(), int(first.Month())+1, 0).Day()
	want, ok := 0, first.Year() >= 1900 && first.Year() <= 2199
	if ok {
		want = dayOf(first) + min(from.Day(), last) - 1
	}
	if got, is := Months(n, k); got != want || is != ok {
		t.Fatalf("P2.1: Months(%d, %d): %d, %v; want %d, %v", n, k, got, is, want, ok)
	}
}
