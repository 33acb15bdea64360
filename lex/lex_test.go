package lex

import (
	"slices"
	"strings"
	"testing"

	"publican/api"
)

const keptNames = "input rule table bool count money rate date moneys if then else and or not min max sum in len at true false"

// one checks that a text is one word, alone and amid others.
func one(t *testing.T, text string, kind int, n int64) {
	t.Helper()
	for _, ahead := range []string{"", " ", "x ", "#\n", "((", "2024-01-01 "} {
		for _, behind := range []string{"", " ", "\t", "\r", "\n", "#", ";", ")x"} {
			l, at, e := Cut(ahead + text + behind)
			want := Word{kind, text, n, len(ahead)}
			if e != api.OK || at != 0 || !slices.Contains(l, want) {
				t.Errorf("P9.1: Cut(%q): %v, %d, %v, want %v in it", ahead+text+behind, l, at, e, want)
			}
		}
	}
}

// words checks that a text is cut into words of these texts and kinds, each where it stands.
func words(t *testing.T, text string, kinds []int, texts ...string) {
	t.Helper()
	l, at, e := Cut(text)
	if e != api.OK || at != 0 || len(l) != len(texts)+1 || l[len(texts)] != (Word{At: len(text)}) {
		t.Errorf("P9.1: Cut(%q): %v, %d, %v, want words %q", text, l, at, e, texts)
		return
	}
	for i, w := range l[:len(texts)] {
		if w.Kind != kinds[i] || w.Text != texts[i] || !strings.HasPrefix(text[w.At:], w.Text) {
			t.Errorf("P9.1: Cut(%q): word %d is %v, want kind %d, %q", text, i, w, kinds[i], texts[i])
		}
	}
}

// wrong checks that a text is refused, and where.
func wrong(t *testing.T, text string, where int) {
	t.Helper()
	if l, at, e := Cut(text); e != api.ESYNTAX || at != where || len(l) != 0 {
		t.Errorf("P9.1: Cut(%q): %v, %d, %v, want ESYNTAX at %d and no words", text, l, at, e, where)
	}
}

func TestExamples(t *testing.T) {
	one(t, "$1.50", 4, 150)
	one(t, "4.5%", 5, 45000)
	one(t, "2024-01-01", 6, 45290)
}

func TestNames(t *testing.T) {
	for _, s := range []string{"a", "z", "tax", "a_", "a__1", "a0", "z9", "ifs", "i", "inputs", "rul", "list", "e", strings.Repeat("z", 32), "a" + strings.Repeat("_", 31)} {
		one(t, s, 1, 0)
		if Kept(s) {
			t.Errorf("P9: Kept(%q)", s)
		}
	}
	for _, s := range []string{strings.Repeat("z", 33), strings.Repeat("if", 17), "a" + strings.Repeat("0", 32), strings.Repeat("a", 8192)} {
		wrong(t, s, 0)
	}
	wrong(t, "a b\n"+strings.Repeat("c", 33)+" ?", 4)
	wrong(t, "aB", 1)
	wrong(t, "_a", 0)
	wrong(t, "Tax", 0)
	wrong(t, "a\xc3\xa9", 1)
	wrong(t, "a.b", 1)
}

func TestKept(t *testing.T) {
	for _, s := range strings.Fields(keptNames) {
		one(t, s, 2, 0)
		if !Kept(s) {
			t.Errorf("P9: Kept(%q) is false", s)
		}
		for _, other := range []string{s + "_", s + "1", s[1:] + s[:1] + s, strings.ToUpper(s), " " + s, s + " ", s + "\x00"} {
			if Kept(other) {
				t.Errorf("P9: Kept(%q)", other)
			}
		}
	}
	for _, s := range []string{"", "end", "day", "days", "rates", "tables", "$", "+", "12", "2024-01-01"} {
		if Kept(s) {
			t.Errorf("P9: Kept(%q)", s)
		}
	}
}

func TestCounts(t *testing.T) {
	one(t, "0", 3, 0)
	one(t, "9", 3, 9)
	one(t, "1234567890", 3, 1234567890)
	one(t, "00012", 3, 12)
	one(t, "4503599627370496", 3, api.MaxMoney)
	one(t, strings.Repeat("0", 4000)+"4503599627370496", 3, api.MaxMoney)
	for _, s := range []string{"4503599627370497", "4503599627370500", "45035996273704960", "9223372036854775808", "18446744073709551617", "184467440737095516160000000000001", strings.Repeat("9", 8192), "4503599627370497.5", "4503599627370497 ?"} {
		wrong(t, s, 0)
	}
	wrong(t, "1 ; 4503599627370497 ?", 4)
	words(t, "12ab", []int{3, 1}, "12", "ab")
	words(t, "12$5", []int{3, 4}, "12", "$5")
}

func TestMoneys(t *testing.T) {
	one(t, "$0", 4, 0)
	one(t, "$1", 4, 100)
	one(t, "$0.00", 4, 0)
	one(t, "$0.01", 4, 1)
	one(t, "$0.10", 4, 10)
	one(t, "$12.34", 4, 1234)
	one(t, "$0012.34", 4, 1234)
	one(t, "$45035996273704.96", 4, api.MaxMoney)
	one(t, "$45035996273704", 4, api.MaxMoney-96)
	for _, s := range []string{"$", "$ 1", "$.50", "$x", "$$1", "$-1", "$45035996273704.97", "$45035996273705", "$45035996273705.00", "$4503599627370496", "$92233720368547758.08", "$184467440737095516.17", "$" + strings.Repeat("9", 60) + ".99"} {
		wrong(t, s, 0)
	}
	for _, s := range []string{"$1.", "$1.5", "$1.505", "$1.x5", "$1.5x", "$1..50", "$1.5.0", "$1.50000"} {
		wrong(t, s, 2)
	}
	wrong(t, "$1.50.5", 5)
	wrong(t, "$1.50%", 5)
	wrong(t, "$1%", 2)
	words(t, "$1.50x", []int{4, 1}, "$1.50", "x")
	words(t, "$2024-01-01", []int{4, 7, 3, 7, 3}, "$2024", "-", "01", "-", "01")
}

func TestRates(t *testing.T) {
	one(t, "0%", 5, 0)
	one(t, "1%", 5, 10000)
	one(t, "100%", 5, 1000000)
	one(t, "0.1%", 5, 1000)
	one(t, "0.02%", 5, 200)
	one(t, "0.003%", 5, 30)
	one(t, "0.0004%", 5, 4)
	one(t, "12.3456%", 5, 123456)
	one(t, "007.50%", 5, 75000)
	one(t, "99999999.9999%", 5, 999999999999)
	one(t, "100000000%", 5, 1000000000000)
	one(t, "100000000.0000%", 5, 1000000000000)
	for _, s := range []string{"100000000.0001%", "100000001%", "450359962737%", "4503599627370496%", "1844674407370956%", "18446744073709551616%", strings.Repeat("9", 50) + ".5%"} {
		wrong(t, s, 0)
	}
	for _, s := range []string{"1.%", "1.5", "1.23456%", "1.00000%", "1.5 %", "1..5%", "1.x%", "1.5x%"} {
		wrong(t, s, 1)
	}
	wrong(t, "4503599627370497.12345%", 0)
	wrong(t, "1 %", 2)
	wrong(t, "5%%", 2)
	wrong(t, "%", 0)
	wrong(t, "a%", 1)
	words(t, "5%5%x", []int{5, 5, 1}, "5%", "5%", "x")
}

func TestDays(t *testing.T) {
	one(t, "1900-01-01", 6, 0)
	one(t, "2199-12-31", 6, api.MaxDay)
	one(t, "2024-02-29", 6, 45349)
	for _, s := range []string{"1899-12-31", "2200-01-01", "2023-02-29", "2024-13-01", "2024-00-10", "2024-01-00", "2024-01-011", "2024-1-1", "12024-01-01", "024-01-01"} {
		part := strings.Split(s, "-")
		words(t, s, []int{3, 7, 3, 7, 3}, part[0], "-", part[1], "-", part[2])
	}
	wrong(t, "2024-01-01%", 10)
	wrong(t, "2024-01-01.5%", 10)
	words(t, "2024-01-01x", []int{6, 1}, "2024-01-01", "x")
	words(t, "2024-01-01-2024-01-02", []int{6, 7, 6}, "2024-01-01", "-", "2024-01-02")
	words(t, "1-2024-01-01", []int{3, 7, 6}, "1", "-", "2024-01-01")
	words(t, "2024-01-0", []int{3, 7, 3, 7, 3}, "2024", "-", "01", "-", "0")
	words(t, "2023-02-290%", []int{3, 7, 3, 7, 5}, "2023", "-", "02", "-", "290%")
	words(t, "2024-01-01$1", []int{6, 4}, "2024-01-01", "$1")
}

func TestSigns(t *testing.T) {
	all := strings.Fields("( ) { } [ ] , ; : = + - * / < <= > >= == !=")
	for _, s := range all {
		one(t, s, 7, 0)
	}
	words(t, "===", []int{7, 7}, "==", "=")
	words(t, "<==", []int{7, 7}, "<=", "=")
	words(t, ">==", []int{7, 7}, ">=", "=")
	words(t, "<>", []int{7, 7}, "<", ">")
	words(t, "=<", []int{7, 7}, "=", "<")
	words(t, "!===", []int{7, 7}, "!=", "==")
	words(t, "< =", []int{7, 7}, "<", "=")
	wrong(t, "!", 0)
	wrong(t, "=!", 1)
	wrong(t, "! =", 0)
	for c := range 256 {
		s := string([]byte{byte(c)})
		if c != '#' && !slices.Contains(all, s) && !strings.Contains(" \t\r\n0123456789abcdefghijklmnopqrstuvwxyz", s) {
			wrong(t, "a "+s, 2)
			wrong(t, s+" =", 0)
		}
	}
}

func TestBetween(t *testing.T) {
	for _, s := range []string{"", " ", "\t", "\n", "\r", "#", "# all", "#\n", "##\n#", "#\x00\xff\n", " \t\r\n #x\n\t#"} {
		words(t, s, nil)
	}
	for _, s := range []string{"\v", "\f", "\x00", "\x7f", "\x80", "\u00a0"} {
		wrong(t, "a"+s, 1)
	}
	words(t, "a#b;c\nd", []int{1, 1}, "a", "d")
	words(t, "a#b\r;c\nd", []int{1, 1}, "a", "d")
	words(t, "a# ? \x00 $\n#\n\n d", []int{1, 1}, "a", "d")
	words(t, "=#\n=", []int{7, 7}, "=", "=")
}

func TestLimit(t *testing.T) {
	for text, want := range map[string]api.Errno{
		strings.Repeat(" ", api.MaxText):          api.OK,
		strings.Repeat("a ", api.MaxText/2):       api.OK,
		strings.Repeat("?", api.MaxText):          api.ESYNTAX,
		strings.Repeat(" ", api.MaxText+1):        api.ELIMIT,
		strings.Repeat("?", api.MaxText+1):        api.ELIMIT,
		"#" + strings.Repeat("\n", api.MaxText*4): api.ELIMIT,
	} {
		l, at, e := Cut(text)
		if e != want || at != 0 || want != api.OK && len(l) != 0 {
			t.Errorf("P9.1: Cut of %d bytes: %d words, %d, %v, want %v", len(text), len(l), at, e, want)
		}
	}
	if l, _, _ := Cut(strings.Repeat("(", api.MaxText)); len(l) != api.MaxText+1 || l[api.MaxText].At != api.MaxText {
		t.Errorf("P9.1: %d words of %d signs", len(l), api.MaxText)
	}
}

func TestNewMemory(t *testing.T) {
	const text = "rule tax money = $7.50 + x; # all\n"
	first, _, _ := Cut(text)
	second, _, _ := Cut(text)
	same := slices.Clone(second)
	for _, w := range first[len(first):cap(first)] {
		if w != (Word{}) {
			t.Errorf("R4: spare room has %v", w)
		}
	}
	for i := range first[:cap(first)] {
		first[:cap(first)][i] = Word{9, "?", 9, 9}
	}
	if third, _, _ := Cut(text); !slices.Equal(second, same) || !slices.Equal(third, same) {
		t.Errorf("R4: a spoilt answer is seen in another: %v, %v", second, third)
	}
}
