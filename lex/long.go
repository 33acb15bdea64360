package lex

import (
	"publican/api"
	"publican/cal"
)

const (
	maxName  = 32
	maxRate  = 1000000000000
	dayBytes = 10
	// A rate of one percent is 10^4 millionths: so many digits may stand behind its dot.
	rateDigits = 4
)

// long reads the word of several bytes that begins at a letter, a digit or a $; false: there is none that may be.
func long(text string, at int) (Word, bool) {
	switch c := text[at]; {
	case letter(c):
		return name(text, at)
	case c == '$':
		return money(text, at)
	}
	if w, ok := day(text, at); ok {
		return w, true
	}
	end := digits(text, at)
	if stop, ok := percent(text, end); ok {
		n := figure(figure(0, text[at:end]), behindDot(text[end:stop-1]))
		return Word{kindRate, text[at:stop], n, at}, n <= maxRate
	}
	n := figure(0, text[at:end])
	return Word{kindCount, text[at:end], n, at}, n <= api.MaxMoney
}

// name reads a name, kept or not.
func name(text string, at int) (Word, bool) {
	end := at
	for end < len(text) && (letter(text[end]) || digit(text[end]) || text[end] == '_') {
		end++
	}
	w := Word{Kind: kindName, Text: text[at:end], At: at}
	if Kept(w.Text) {
		w.Kind = kindKept
	}
	return w, end-at <= maxName
}

// money reads a $ and what it stands ahead of.
func money(text string, at int) (Word, bool) {
	end := digits(text, at+1)
	if end == at+1 {
		return Word{}, false
	}
	n, cents := figure(0, text[at+1:end]), "00"
	if stop := dotted(text, end); stop-end == len(".00") {
		cents, end = text[end+1:stop], stop
	}
	n = figure(n, cents)
	return Word{kindMoney, text[at:end], n, at}, n <= api.MaxMoney
}

// day reads ten bytes that are a day, and no longer row of digits.
func day(text string, at int) (Word, bool) {
	end := at + dayBytes
	if end > len(text) || digits(text, end) != end {
		return Word{}, false
	}
	n, ok := cal.Read(text[at:end])
	return Word{kindDay, text[at:end], int64(n), at}, ok
}

// percent tells whether the digits up to end are a rate's, and where that ends, its % with it.
func percent(text string, end int) (int, bool) {
	if stop := dotted(text, end); stop-end <= len(".")+rateDigits {
		end = stop
	}
	return end + 1, end < len(text) && text[end] == '%'
}

// dotted answers where a dot and all the digits behind it end; without a dot or digits, where they would begin.
func dotted(text string, at int) int {
	if at == len(text) || text[at] != '.' {
		return at
	}
	end := digits(text, at+1)
	if end == at+1 {
		return at
	}
	return end
}

// behindDot answers a rate's digits behind the dot, so many as a whole percent has: its dot's part may be "" too.
func behindDot(part string) string {
	if part != "" {
		part = part[1:]
	}
	return (part + "0000")[:rateDigits]
}

// digits answers where a row of digits ends.
func digits(text string, at int) int {
	for at < len(text) && digit(text[at]) {
		at++
	}
	return at
}

// figure puts digits behind a number; one above MaxMoney, which is too great for any word, stays so and does not wrap round.
func figure(n int64, row string) int64 {
	for i := range len(row) {
		n = min(10*n+int64(row[i]-'0'), api.MaxMoney+1)
	}
	return n
}

func blank(c byte) bool { return c == ' ' || c == '\t' || c == '\n' || c == '\r' }

func letter(c byte) bool { return 'a' <= c && c <= 'z' }

func digit(c byte) bool { return '0' <= c && c <= '9' }
