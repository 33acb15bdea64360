package cal

import (
	"testing"

	"publican/api"
)

func TestText(t *testing.T) {
	at := midnight(1900, 1, 1)
	for n := 0; n <= api.MaxDay; n++ {
		if got, want := Text(n), at.Format("2006-01-02"); got != want {
			t.Fatalf("P2.1: Text(%d): %q; want %q", n, got, want)
		}
		at = at.AddDate(0, 0, 1)
	}
	if got := Text(0); got != "1900-01-01" {
		t.Errorf("P2.1: Text(0): %q", got)
	}
	if got := Text(api.MaxDay); got != "2199-12-31" {
		t.Errorf("P2.1: Text(%d): %q", api.MaxDay, got)
	}
	for _, n := range noDays {
		if got := Text(n); got != "" {
			t.Errorf("P2.1: Text(%d): %q; want nothing", n, got)
		}
	}
}

func TestReadWrong(t *testing.T) {
	wrong := []string{
		"", "2", "2024", "2024-", "2024-01", "2024-01-", "2024-01-1", "2024-1-01", "2024-1-1", "024-01-01", "24-01-01",
		"2024-01-011", "02024-01-01", "2024-001-01", "20240101", "2024010101", "2024-01-01 ", " 2024-01-01", "2024-01-01\n", "2024-01-01\x00",
		"2024/01/01", "2024.01.01", "2024 01 01", "2024_01_01", "01-01-2024", "--2024-01-", "2024--1-01", "2024-01--1", "-024-01-01",
		"+024-01-01", "2024-+1-01", "2024-01-+1", "2024- 1-01", "2024-01- 1", "2024-0x-01", "2O24-01-01", "0x7e-01-01", "2024-01-0١", "２０２-01", "2024–01–", "2024–01-1",
		"2024-00-01", "2024-13-01", "2024-01-00", "2024-01-32", "2023-02-29", "2024-02-30", "1900-02-29", "2100-02-29", "2024-04-31",
		"1899-12-31", "2200-01-01", "0000-00-00", "9999-99-99", "0001-01-01", "9999-12-31", "2024-99-99",
	}
	for _, s := range wrong {
		if got, ok := Read(s); got != 0 || ok {
			t.Errorf("P2.1: Read(%q): %d, %v; want 0, false", s, got, ok)
		}
	}
}

// TestReadBack: a text is read just where it is some day's own.
func TestReadBack(t *testing.T) {
	days := map[string]int{}
	at := midnight(1900, 1, 1)
	for n := 0; n <= api.MaxDay; n++ {
		days[at.Format("2006-01-02")] = n
		at = at.AddDate(0, 0, 1)
	}
	for s := range days {
		checkRead(t, days, s)
	}
	for _, s := range []string{"1900-01-01", "1999-12-31", "2000-02-29", "2024-10-30", "2199-12-31"} {
		for i := range s {
			checkRead(t, days, s[:i])
			checkRead(t, days, s[:i]+s[i+1:])
			for c := range 256 {
				checkRead(t, days, s[:i]+string([]byte{byte(c)})+s[i+1:])
				checkRead(t, days, s[:i]+string([]byte{byte(c)})+s[i:])
			}
		}
	}
}

func checkRead(t *testing.T, days map[string]int, s string) {
	t.Helper()
	want, ok := days[s]
	if got, is := Read(s); got != want || is != ok {
		t.Fatalf("P2.1: Read(%q): %d, %v; want %d, %v", s, got, is, want, ok)
	}
}
