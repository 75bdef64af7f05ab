package parts

import (
	"strconv"
	"strings"
)

// Name: the letter, and the number as so many digits.
func Name(letter string, digits int, n int64) string {
	text := strconv.FormatInt(n, 10)
	return letter + strings.Repeat("0", max(0, digits-len(text))) + text
}

// Numbers: of those of the names that are a letter and so many digits, in the names' order.
func Numbers(letter string, digits int, names []string) []int64 {
	var out []int64
	for _, name := range names {
		if n, ok := number(letter, digits, name); ok {
			out = append(out, n)
		}
	}
	return out
}

func number(letter string, digits int, name string) (int64, bool) {
	text, ok := strings.CutPrefix(name, letter)
	if !ok || len(text) != digits {
		return 0, false
	}
	var n int64
	for i := range len(text) {
		if text[i] < '0' || text[i] > '9' {
			return 0, false
		}
		n = 10*n + int64(text[i]-'0')
	}
	return n, true
}
