package money

import (
	"strings"

	"passbook/api"
	"passbook/digits"
)

const blank = " "

// Write, Parse: as a text.
func Write(m api.Money) (string, api.Errno) {
	d, e := To(m)
	if e != api.OK {
		return "", e
	}
	text, e := digits.Write(d)
	if e != api.OK {
		return "", e
	}
	return currencies[m.Cur].name + blank + text, api.OK
}

func Parse(s string) (api.Money, api.Errno) {
	if len(s) > api.MaxDigits {
		return api.Money{}, api.ErrLong
	}
	// Without a blank the amount is empty: no decimal's text.
	name, text, _ := strings.Cut(s, blank)
	cur, ok := named(name)
	if !ok {
		return api.Money{}, api.ErrText
	}
	d, _, e := digits.Parse(text)
	if e != api.OK || d.Scale != currencies[cur].digits {
		return api.Money{}, api.ErrText
	}
	m, e := Of(d, cur, api.Down)
	if e != api.OK {
		return api.Money{}, api.ErrText
	}
	return m, api.OK
}

func named(name string) (int, bool) {
	for cur, c := range currencies {
		if c.name == name {
			return cur, true
		}
	}
	return 0, false
}
