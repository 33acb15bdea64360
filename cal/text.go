package cal

// pattern is a day's text: 0 stands for any figure, all else for itself.
const pattern = "0000-00-00"

// Text writes a day.
func Text(n int) string {
	y, m, d, ok := Date(n)
	if !ok {
		return ""
	}
	b := []byte(pattern)
	figures(b[0:4], y)
	figures(b[5:7], m)
	figures(b[8:10], d)
	return string(b)
}

// Read reads one.
func Read(s string) (int, bool) {
	if !fits(s) {
		return 0, false
	}
	return Of(number(s[0:4]), number(s[5:7]), number(s[8:10]))
}

// figures writes a number over the whole of a field, with noughts ahead.
func figures(field []byte, n int) {
	for i := len(field) - 1; i >= 0; i-- {
		field[i] = byte('0' + n%10)
		n /= 10
	}
}

// number reads a field of figures.
func number(field string) int {
	n := 0
	for _, c := range []byte(field) {
		n = n*10 + int(c-'0')
	}
	return n
}

// fits tells whether a text has figures and strokes just where the pattern has them.
func fits(s string) bool {
	if len(s) != len(pattern) {
		return false
	}
	for i := range len(s) {
		if pattern[i] == '0' {
			if s[i] < '0' || s[i] > '9' {
				return false
			}
		} else if s[i] != pattern[i] {
			return false
		}
	}
	return true
}
