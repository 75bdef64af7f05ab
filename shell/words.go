package shell

import (
	"strconv"
	"strings"

	"passbook/api"
)

const (
	blank   = " "
	newline = "\n"
)

// read: the first word, and the numbers behind it. A blank too many makes an empty word, which is neither.
func read(line string) (string, []int64, bool) {
	words := strings.Split(line, blank)
	numbers := make([]int64, 0, len(words)-1)
	for _, word := range words[1:] {
		n, ok := number(word)
		if !ok {
			return "", nil, false
		}
		numbers = append(numbers, n)
	}
	return words[0], numbers, true
}

// number: written again, it must be the same word, since a number has but one.
func number(word string) (int64, bool) {
	n, e := strconv.ParseInt(word, 10, 64)
	return n, e == nil && strconv.FormatInt(n, 10) == word
}

// tell: words and numbers, with a blank between each two.
func tell(parts ...any) string {
	words := make([]string, 0, len(parts))
	for _, part := range parts {
		switch p := part.(type) {
		case string:
			words = append(words, p)
		case int64:
			words = append(words, strconv.FormatInt(p, 10))
		case bool:
			words = append(words, strconv.FormatBool(p))
		case api.Errno:
			words = append(words, strconv.Itoa(int(p)))
		}
	}
	return strings.Join(words, blank)
}
