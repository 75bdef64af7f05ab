package cal

import (
	"strconv"
	"strings"
)

// The form of a day's text: where its parts stand, and how many digits they have.
const (
	form = "0000-00-00"

	monthPlace = 5
	dayPlace   = 8

	yearDigits  = 4
	monthDigits = 2
	dayDigits   = 2
)

func padded(v, width int) string {
	s := strconv.Itoa(v)
	return strings.Repeat("0", width-len(s)) + s
}

func hasForm(s string) bool {
	if len(s) != len(form) {
		return false
	}
	for i := range len(form) {
		if (form[i] == '-') != (s[i] == '-') {
			return false
		}
		if form[i] != '-' && (s[i] < '0' || s[i] > '9') {
			return false
		}
	}
	return true
}

// value: of a few digits and nothing else.
func value(s string) int {
	v := 0
	for i := range len(s) {
		v = v*10 + int(s[i]-'0')
	}
	return v
}
