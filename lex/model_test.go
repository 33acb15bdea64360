package lex

import (
	"math/big"
	"math/rand"
	"regexp"
	"slices"
	"strings"
	"testing"
	"time"

	"publican/api"
)

var (
	modelBetween = regexp.MustCompile(`^(?:[ \t\r\n]|#[^\n]*)+`)
	modelName    = regexp.MustCompile(`^[a-z][a-z0-9_]*`)
	modelDay     = regexp.MustCompile(`^[0-9]{4}-[0-9]{2}-[0-9]{2}(?:[^0-9]|$)`)
	modelRate    = regexp.MustCompile(`^([0-9]+)(?:\.([0-9]{1,4}))?%`)
	modelCents   = regexp.MustCompile(`^\$([0-9]+)\.([0-9]{2})(?:[^0-9]|$)`)
	modelMoney   = regexp.MustCompile(`^\$([0-9]+)`)
	modelCount   = regexp.MustCompile(`^[0-9]+`)
	modelSign    = regexp.MustCompile(`^(?:[<>=!]=|[(){}\[\],;:=+\-*/<>])`)
)

// modelNumber tells a whole number, if it is at most the limit.
func modelNumber(text string, limit int64) (int64, bool) {
	n, ok := new(big.Int).SetString(text, 10)
	if !ok || n.Cmp(big.NewInt(limit)) > 0 {
		return 0, false
	}
	return n.Int64(), true
}

// modelWord tells the word that begins a text, as the chapter says it.
func modelWord(s string) (Word, bool) {
	if w := modelName.FindString(s); w != "" {
		kind := 1
		if slices.Contains(strings.Fields(keptNames), w) {
			kind = 2
		}
		return Word{kind, w, 0, 0}, len(w) <= 32
	}
	if modelDay.MatchString(s) {
		day, err := time.Parse("2006-01-02", s[:10])
		if err == nil && day.Year() >= 1900 && day.Year() < 2200 {
			first := time.Date(1900, 1, 1, 0, 0, 0, 0, time.UTC)
			return Word{6, s[:10], (day.Unix() - first.Unix()) / 86400, 0}, true
		}
	}
	if m := modelRate.FindStringSubmatch(s); m != nil {
		n, ok := modelNumber(m[1]+m[2]+strings.Repeat("0", 4-len(m[2])), 1000000000000)
		return Word{5, m[0], n, 0}, ok
	}
	if m := modelCents.FindStringSubmatch(s); m != nil {
		n, ok := modelNumber(m[1]+m[2], 1<<52)
		return Word{4, "$" + m[1] + "." + m[2], n, 0}, ok
	}
	if m := modelMoney.FindStringSubmatch(s); m != nil {
		n, ok := modelNumber(m[1]+"00", 1<<52)
		return Word{4, m[0], n, 0}, ok
	}
	if w := modelCount.FindString(s); w != "" {
		n, ok := modelNumber(w, 1<<52)
		return Word{3, w, n, 0}, ok
	}
	w := modelSign.FindString(s)
	return Word{7, w, 0, 0}, w != ""
}

func modelCut(text string) ([]Word, int, api.Errno) {
	if len(text) > 8192 {
		return nil, 0, api.ELIMIT
	}
	var l []Word
	for at := 0; ; {
		at += len(modelBetween.FindString(text[at:]))
		if at == len(text) {
			return append(l, Word{At: at}), 0, api.OK
		}
		w, ok := modelWord(text[at:])
		if !ok {
			return nil, at, api.ESYNTAX
		}
		w.At = at
		l = append(l, w)
		at += len(w.Text)
	}
}

func checkModel(t *testing.T, text string) bool {
	t.Helper()
	l, at, e := Cut(text)
	wl, wat, we := modelCut(text)
	if e != we || at != wat || !slices.Equal(l, wl) {
		t.Errorf("P9.1: Cut(%q): %v, %d, %v, want %v, %d, %v", text, l, at, e, wl, wat, we)
	}
	return e == api.OK
}

func TestModelWords(t *testing.T) {
	pieces := append(strings.Fields(keptNames), strings.Fields("a z x1 a_ ( ) { } [ ] , ; : = + - * / < <= > >= == != ! ? $ . % # _ A 0 1 9 00 12 1.5 1.5% 0.0001% 1.23456% 100000000% 100000001% $1 $1.5 $1.50 $1.505 $45035996273704.96 $45035996273704.97 4503599627370496 4503599627370497 2024-01-01 2023-02-29 1900-01-01 2199-12-31 2200-01-01 2024-01-01")...)
	pieces = append(pieces, " ", "\n", "\t", "\r", "#", "\n", "é", "\x00", strings.Repeat("n", 31), strings.Repeat("n", 32))
	rng := rand.New(rand.NewSource(9))
	good := 0
	for range 60000 {
		var b strings.Builder
		for range rng.Intn(8) {
			b.WriteString(pieces[rng.Intn(len(pieces))])
			if rng.Intn(3) > 0 {
				b.WriteString(" ")
			}
		}
		if checkModel(t, b.String()) {
			good++
		}
		if t.Failed() {
			return
		}
	}
	if good < 10000 {
		t.Errorf("only %d texts of 60000 were good", good)
	}
}

func TestModelBytes(t *testing.T) {
	for _, letters := range []string{"01.%$ -", "2019-0%.", "<>=! ", "az_09 #\n", "a1$.%-=<( #\n\x00\xff"} {
		rng := rand.New(rand.NewSource(int64(len(letters))))
		for range 30000 {
			b := make([]byte, rng.Intn(14))
			for i := range b {
				b[i] = letters[rng.Intn(len(letters))]
			}
			checkModel(t, string(b))
			if t.Failed() {
				return
			}
		}
	}
}

// TestModelShort goes through every text of up to four bytes out of those that differ in what they begin or end.
func TestModelShort(t *testing.T) {
	const letters = "a_05.%$-=!<# \n?"
	var walk func(text string, left int)
	walk = func(text string, left int) {
		checkModel(t, text)
		for i := 0; i < len(letters) && left > 0 && !t.Failed(); i++ {
			walk(text+letters[i:i+1], left-1)
		}
	}
	walk("", 4)
}
